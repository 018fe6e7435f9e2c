/- Texts one behind the other, each in a section of its own: what calls make of memory, step by step. -/
import Derived.Test.YtfffkgbnjakhnaaGreatDoorPackNeedNone15
import Derived.Deep.RegionHeld3

/- State, Pid, Has, turn, allOn, Set, Graph, Events. -/
section
namespace Go.Proofs.YtfffkgbnjakhnaaGreatDoor
open Go.RowKit
open Go.ChangeMaps (setBlock)
set_option linter.unusedVariables false
set_option linter.unusedSimpArgs false
set_option maxRecDepth 100000

section
variable {w0 w w' : World} {K : Blocks} {L0 : List Rw} {v : Nat} {X : VX} {Y : Tab} {M : MS}
theorem MgIn.drew1 (h : MgIn w0 K L0 v X Y M w) : MgIn w0 K L0 v X Y M w.drew := h.later (Below.refl _ _).drew
theorem RunD.Ok.shape (h : MgIn w0 K L0 v X Y M w) {r : RunD} (hr : r.Ok L0) : ∃ a c, r.hv = .slice a r.files.length c := by
  rcases hr with ⟨h1, h2⟩ | hr
  · exact ⟨none, 0, by rw [h1, h2]; rfl⟩
  · obtain ⟨a, c, e, _⟩ := h.sts hr
    exact ⟨a, c, e⟩
theorem MgIn.shape (h : MgIn w0 K L0 v X Y M w) (n : Nm) : ∃ a c, (M.of n).hv = .slice a (M.of n).files.length c := (h.ok n).shape h
theorem RunD.Ok.sts (h : MgIn w0 K L0 v X Y M w) {r : RunD} (hr : r.Ok L0) : Sts w r.hv r.files := by
  rcases hr with ⟨h1, h2⟩ | hr
  · rw [h1, h2]; exact sts_nil w
  · exact h.sts hr
theorem field_run (st pid tr : Int) (a : Option Addr) (m c : Nat) (w : World) : (Instr.field 119 (.agg #[.int .i64 st, .int .i64 pid, .slice a m c, .int .i64 tr]) 0).run Tryz.prog w = .ok (.int .i64 st) w ∧ (Instr.field 119 (.agg #[.int .i64 st, .int .i64 pid, .slice a m c, .int .i64 tr]) 1).run Tryz.prog w = .ok (.int .i64 pid) w ∧ (Instr.field 119 (.agg #[.int .i64 st, .int .i64 pid, .slice a m c, .int .i64 tr]) 2).run Tryz.prog w = .ok (.slice a m c) w :=
  ⟨by kernel_rfl, by kernel_rfl, by kernel_rfl⟩
set_option maxHeartbeats 1000000 in
theorem state_in (h : MgIn w0 K L0 v X Y M w) (n : Nm) : Calls Tryz.prog 35 #[.pointer (some ⟨M.m, 0, none⟩), .string (toB n)] w fun e w' => e = .returned (.int .i64 (M.of n).state) ∧ w = w' := by
  obtain ⟨⟨c0, c1, c2, c3⟩, hf⟩ := h.cells
  obtain ⟨a, c, hs⟩ := h.shape n
  have hl := h.lookup n
  unfold RunD.val at hl
  rw [hs] at hl
  clear h hs c0 c1 c3 hf
  generalize toB n = nb at *
  generalize M.of n = r at *
  obtain ⟨st, pid, hv, tr, fs⟩ := r
  dsimp only at hl ⊢
  have hfr := field_run st pid tr a fs.length c w
  obtain ⟨f0, f1, f2⟩ := hfr
  go_enter Tryz.func35, Tryz.ntmps35
  go_wp2_with fail
  go_ret
  exact ⟨rfl, rfl⟩
set_option maxHeartbeats 1000000 in
theorem pid_in (h : MgIn w0 K L0 v X Y M w) (n : Nm) : Calls Tryz.prog 25 #[.pointer (some ⟨M.m, 0, none⟩), .string (toB n)] w fun e w' => e = .returned (.int .i64 (M.of n).pid) ∧ w = w' := by
  obtain ⟨⟨c0, c1, c2, c3⟩, hf⟩ := h.cells
  obtain ⟨a, c, hs⟩ := h.shape n
  have hl := h.lookup n
  unfold RunD.val at hl
  rw [hs] at hl
  clear h hs c0 c1 c3 hf
  generalize toB n = nb at *
  generalize M.of n = r at *
  obtain ⟨st, pid, hv, tr, fs⟩ := r
  dsimp only at hl ⊢
  have hfr := field_run st pid tr a fs.length c w
  obtain ⟨f0, f1, f2⟩ := hfr
  go_enter Tryz.func25, Tryz.ntmps25
  go_wp2_with fail
  go_ret
  exact ⟨rfl, rfl⟩
set_option maxHeartbeats 1000000 in
theorem has_in (h : MgIn w0 K L0 v X Y M w) (n : Nm) (hlen : (M.of n).files.length ≤ 1000000) : Calls Tryz.prog 36 #[.pointer (some ⟨M.m, 0, none⟩), .string (toB n)] w fun e w' => ∃ v', e = .returned v' ∧ Own w w' [rowSs v' (M.of n).files] := by
  obtain ⟨⟨c0, c1, c2, c3⟩, hf⟩ := h.cells
  obtain ⟨a, c, hs⟩ := h.shape n
  have hl := h.lookup n
  have hst := (h.ok n).sts h
  rw [hs] at hst
  have hcl := cloneS_sts _ _ w hst hlen
  unfold RunD.val at hl
  rw [hs] at hl
  clear h hs hst hlen c0 c1 c3 hf
  generalize toB n = nb at *
  generalize M.of n = r at *
  obtain ⟨st, pid, hv, tr, fs⟩ := r
  dsimp only at hl hcl ⊢
  have hfr := field_run st pid tr a fs.length c w
  obtain ⟨f0, f1, f2⟩ := hfr
  go_enter Tryz.func36, Tryz.ntmps36
  go_wp2_with (go_at_call 75; refine hcl.mono ?_; rintro e w' ⟨v', rfl, hO⟩)
  go_ret
  exact ⟨_, rfl, hO⟩
theorem info_ev : ∃ i, Tryz.prog.info? 79 = some i ∧ i.zero = some (.agg #[.int .i64 0, .string ⟨#[]⟩]) ∧ i.size = 2 ∧ i.bytes = 24 := by
  have h : (Tryz.prog.info? 79).map (fun i => (i.zero, i.size, i.bytes)) = some (some (.agg #[.int .i64 0, .string ⟨#[]⟩]), 2, 24) := by kernel_rfl
  obtain ⟨i, h1, h2⟩ := Option.map_eq_some_iff.1 h
  simp only [Prod.mk.injEq] at h2
  exact ⟨i, h1, h2.1, h2.2.1, h2.2.2⟩
set_option maxHeartbeats 4000000 in
theorem turn_in (h : MgIn w0 K L0 v X Y M w) (n : Nm) {r : RunD} (hr : r.Ok L0) (kind : Int) (hlen : M.evs.length ≤ 1000000) :
    Calls Tryz.prog 58 #[.pointer (some ⟨M.m, 0, none⟩), .string (toB n), r.val, .int .i64 kind] w fun e w' => e = .returned (.tuple #[]) ∧ ∃ ev', MgIn w0 K L0 v X Y { M with runs := if r.state = 0 then del M.runs n else put M.runs n r, ev := ev', evs := M.evs ++ [(kind, n)] } w' := by
  obtain ⟨i0, hi, hz0, hz1, hz2⟩ := info_ev
  obtain ⟨a, c, hs⟩ := hr.shape h
  obtain ⟨st, pid, hv, tr, fs⟩ := r
  dsimp only at hs
  subst hs
  generalize hfl : fs.length = fl at *
  have hB1 : Below w.heap.size w (w.alloc (.cells #[.int .i64 st, .int .i64 pid, .slice a fl c, .int .i64 tr] 119)) := (Below.refl _ w).alloc (Nat.le_refl _) _
  have h1 := h.later hB1
  have h1d := h1.drew1
  have hc1 := (MapKept.heap_alloc w (.cells #[.int .i64 st, .int .i64 pid, .slice a fl c, .int .i64 tr] 119)).1
  have b0 := cell_at hc1 0
  have b1 := cell_at hc1 1
  have b2 := cell_at hc1 2
  have b3 := cell_at hc1 3
  -- what is appended, behind whichever turn of the map
  have HA := Lib.hid (fun (M2 : MS) (W : World) (hM : MgIn w0 K L0 v X Y M2 W) (hm : M2.m = M.m) (hev : M2.ev = M.ev) (hevs : M2.evs = M.evs) => (show W.cell? ⟨M.m, 3, none⟩ = some M.ev ∧ ∃ S N, Own ⟨w0, S⟩ (W.alloc (.cells #[.int .i64 kind, .string (toB n)] 79)) (⟨79, 2, M.ev, M.evs.length, evC M.evs⟩ :: N) ∧ ∀ w' ev', Own ⟨w0, S⟩ w' (⟨79, 2, ev', M.evs.length + 1, evC M.evs ++ [.int .i64 kind, .string (toB n)]⟩ :: N) → (w'.cell? ⟨M.m, 3, none⟩ = some M.ev ∧ w'.frozen? ⟨M.m, 3, none⟩ = false) ∧ MgIn w0 K L0 v X Y { M2 with ev := ev', evs := M.evs ++ [(kind, n)] } (w'.setCell ⟨M.m, 3, none⟩ ev') from by
    obtain ⟨m2, g2, rb2, ev2, evs2, rn2⟩ := M2
    dsimp only at hm hev hevs
    subst hm hev hevs
    obtain ⟨S, N, hO, back⟩ := hM.grow
    unfold rowEv at hO back
    refine ⟨hM.cells.1.2.2.2, S, N, hO.alloc _, fun w' ev' hO' => ?_⟩
    have h9 := back w' ev' (M.evs ++ [(kind, n)]) (by rw [List.length_append, evC_snoc]; exact hO')
    exact ⟨⟨h9.1.1, h9.1.2⟩, h9.2⟩))
  obtain ⟨o1, e1, k1⟩ := h1.delete n
  obtain ⟨o2, e2, k2⟩ := h1d.update n hr
  obtain ⟨⟨c0, c1, c2, c3⟩, hf⟩ := h1.cells
  obtain ⟨ea, ec2, hev⟩ := h.evForm
  have Hlen := Lib.hid hlen
  unfold RunD.val at e2 ⊢
  rw [hev] at c3
  dsimp only at e2 ⊢
  by_cases hst : st = 0
  · subst hst
    rw [if_pos rfl]
    obtain ⟨W1, hW1⟩ : ∃ W1, W1 = setBlock (w.alloc (.cells #[.int .i64 0, .int .i64 pid, .slice a fl c, .int .i64 tr] 119)) M.rb o1 := ⟨_, rfl⟩
    rw [← hW1] at e1 k1
    obtain ⟨a3, S, N, hO, hback⟩ := HA.out _ _ k1 rfl rfl rfl
    clear hW1
    generalize toB n = nb at *
    rw [hev] at a3 hO
    have Hsrc := Lib.hid (lit_src W1 [.int .i64 kind, .string nb] 79 (by intro u hu; simp only [List.mem_cons, List.not_mem_nil, or_false] at hu; rcases hu with rfl | rfl <;> rfl) W1.heap.size rfl)
    have Hb1 := Lib.hid (show M.evs.length + 1 ≤ maxLen from by have := Hlen.out; unfold maxLen; omega)
    have Hb2 := Lib.hid (show (M.evs.length + 1) * 24 ≤ 140737488355328 from by have := Hlen.out; omega)
    have HO := Lib.hid hO
    have HBK := Lib.hid hback
    clear h h1 h1d hr hlen hO hback hc1 hB1 HA k1 k2 c0 c1 hf hev e2
    generalize hnl : M.evs.length = nl at *
    generalize hec : evC M.evs = ec at *
    go_enter Tryz.func58, Tryz.ntmps58
    go_wp2_with (at_builtin; refine wpList_append_src rfl (.tmp 26) (.tmp 30) 77 rfl (.slice ea nl ec2) nl ec (.slice (some ⟨W1.heap.size, 0, none⟩) 1 1) 1 [.int .i64 kind, .string nb] rfl rfl HO.out i0 (.agg #[.int .i64 0, .string ⟨#[]⟩]) 24 Tryz.underlying77 hi hz0 hz1 hz2 rfl (by decide) Hsrc.out rfl Hb1.out Hb2.out ?_)
    intro ev' w' hO'
    obtain ⟨ea3, ec3, hev3, _, _⟩ := Own.sized (h := hO')
    subst hev3
    obtain ⟨⟨d3, g3⟩, hM'⟩ := HBK.out w' _ hO'
    have HP := Lib.hid hM'
    clear hO' hM' a3 e1
    go_wp2_with fail
    go_end0
    exact ⟨rfl, _, HP.out⟩
  · rw [if_neg hst]
    obtain ⟨W1, hW1⟩ : ∃ W1, W1 = setBlock (w.alloc (.cells #[.int .i64 st, .int .i64 pid, .slice a fl c, .int .i64 tr] 119)).drew M.rb o2 := ⟨_, rfl⟩
    rw [← hW1] at e2 k2
    obtain ⟨a3, S, N, hO, hback⟩ := HA.out _ _ k2 rfl rfl rfl
    clear hW1
    have hst2 : (st == 0) = false := by simpa using hst
    generalize toB n = nb at *
    rw [hev] at a3 hO
    have Hsrc := Lib.hid (lit_src W1 [.int .i64 kind, .string nb] 79 (by intro u hu; simp only [List.mem_cons, List.not_mem_nil, or_false] at hu; rcases hu with rfl | rfl <;> rfl) W1.heap.size rfl)
    have Hb1 := Lib.hid (show M.evs.length + 1 ≤ maxLen from by have := Hlen.out; unfold maxLen; omega)
    have Hb2 := Lib.hid (show (M.evs.length + 1) * 24 ≤ 140737488355328 from by have := Hlen.out; omega)
    have HO := Lib.hid hO
    have HBK := Lib.hid hback
    clear h h1 h1d hr hlen hO hback hc1 hB1 HA k1 k2 c0 c1 hf hev e1 hst
    generalize hnl : M.evs.length = nl at *
    generalize hec : evC M.evs = ec at *
    go_enter Tryz.func58, Tryz.ntmps58
    go_wp2_with fail
    go_region
    go_wp2_with (at_builtin; refine wpList_append_src rfl (.tmp 26) (.tmp 30) 77 rfl (.slice ea nl ec2) nl ec (.slice (some ⟨W1.heap.size, 0, none⟩) 1 1) 1 [.int .i64 kind, .string nb] rfl rfl HO.out i0 (.agg #[.int .i64 0, .string ⟨#[]⟩]) 24 Tryz.underlying77 hi hz0 hz1 hz2 rfl (by decide) Hsrc.out rfl Hb1.out Hb2.out ?_)
    intro ev' w' hO'
    obtain ⟨ea3, ec3, hev3, _, _⟩ := Own.sized (h := hO')
    subst hev3
    obtain ⟨⟨d3, g3⟩, hM'⟩ := HBK.out w' _ hO'
    have HP := Lib.hid hM'
    clear hO' hM' a3 e2
    go_wp2_with fail
    go_end0
    exact ⟨rfl, _, HP.out⟩
end
end Go.Proofs.YtfffkgbnjakhnaaGreatDoor
end

/- allOn, Spawn beside a manager, issue. -/
section
namespace Go.Proofs.YtfffkgbnjakhnaaGreatDoor
open Go.RowKit
open Go.ChangeMaps (setBlock)
set_option linter.unusedVariables false
set_option linter.unusedSimpArgs false
set_option maxRecDepth 100000

section
variable {w0 w w' : World} {K : Blocks} {L0 : List Rw} {v : Nat} {X : VX} {Y : Tab} {M : MS} {N : Nat}
set_option maxHeartbeats 1000000 in
theorem idle_in (h : MgIn w0 K L0 v X Y M w) {b : Nat} (hb : w.cell? ⟨b, 0, none⟩ = some (.pointer (some ⟨M.m, 0, none⟩))) (n : Nm) :
    Calls Tryz.prog 93 #[.string (toB n), .pointer (some ⟨b, 0, none⟩)] w fun e w' => e = .returned (.bool ((M.of n).state != 2)) ∧ Below w.heap.size w w' := by
  have hs := state_in h n
  clear h
  generalize toB n = nb at *
  go_enter Tryz.func93, Tryz.ntmps93
  go_wp2_with (go_at_call 35; refine hs.mono ?_; rintro e w' ⟨rfl, rfl⟩)
  go_ret
  exact ⟨rfl, Below.refl _ _⟩
set_option maxHeartbeats 1000000 in
theorem allOn_in (h : MgIn w0 K L0 v X Y M w) {lv : Value} {ls : List Nm} (hl : Sts w lv ls) :
    Calls Tryz.prog 56 #[.pointer (some ⟨M.m, 0, none⟩), lv] w fun e w' => e = .returned (.bool (onV (vw X Y M) ls)) ∧ Below w.heap.size w w' := by
  have hO := (Own.start w).made_at 31 1 #[.pointer (some ⟨M.m, 0, none⟩)] 1 w.heap.size rfl rfl (by unfold maxLen; decide)
  have hB := hO.below
  have h1 := h.later hB
  have c0 : (w.alloc (.cells #[.pointer (some ⟨M.m, 0, none⟩)] 31)).cell? ⟨w.heap.size, 0, none⟩ = some (.pointer (some ⟨M.m, 0, none⟩)) := hO.cell 0 (by decide)
  have hc := containsF_lb 93 #[.pointer (some ⟨w.heap.size, 0, none⟩)] (fun x => (M.of x).state != 2) (enters_of Tryz.func93 (by kernel_rfl) rfl) lv ls _ (hl.later hB) (fun W x _ hb => idle_in (h1.later hb) ((hb.cell (p := ⟨w.heap.size, 0, none⟩) (World.block_lt_of_cell? _ ⟨w.heap.size, 0, none⟩ c0)).trans c0) x)
  have e1 : onV (vw X Y M) ls = !(ls.any fun x => (M.of x).state != 2) := by
    unfold onV
    rw [List.not_any_eq_all_not]
    refine List.all_congr rfl fun x => ?_
    rw [of_vw]
    show ((M.of x).state == 2) = !(!((M.of x).state == 2))
    rw [Bool.not_not]
  rw [e1]
  have HB := Lib.hid hB
  obtain ⟨a, m, c, rfl⟩ := hl.shape
  clear h h1 hO hB c0 hl e1
  generalize (ls.any fun x => (M.of x).state != 2) = b at *
  go_enter Tryz.func56, Tryz.ntmps56
  go_wp2_with (go_at_call 81; refine hc.mono ?_; rintro e w' ⟨rfl, hb⟩)
  go_ret
  exact ⟨rfl, HB.out.trans (hb.mono HB.out.size)⟩
theorem vw_turn (X : VX) (Y : Tab) (M : MS) (n : Nm) (r : RunD) (kind : Int) (ev : Value) : vw X Y { M with runs := if r.state = 0 then del M.runs n else put M.runs n r, ev := ev, evs := M.evs ++ [(kind, n)] } = turnV (vw X Y M) n r.view kind := by
  unfold vw turnV
  have e : (if r.state = 0 then del M.runs n else put M.runs n r).map (fun p => (p.1, p.2.view)) = if r.view.state = 0 then del (M.runs.map fun p => (p.1, p.2.view)) n else put (M.runs.map fun p => (p.1, p.2.view)) n r.view := by
    show (if r.state = 0 then del M.runs n else put M.runs n r).map (fun p => (p.1, p.2.view)) = if r.state = 0 then _ else _
    split
    · exact delV_map RunD.view M.runs n
    · exact putV_map RunD.view M.runs n r
  dsimp only
  rw [e]
/-- Something is let run beside a manager. -/
def SpawnM (w0 : World) (K : Blocks) (L0 : List Rw) (v : Nat) (X : VX) (Y : Tab) (M : MS) (n : Nm) (fs : List Nm) (e : Ending) (w' : World) : Prop :=
  e = .returned (.tuple #[.int .i64 (if spawnC (vw X Y M) fs = 0 then Y.last + 1 else 0), .int .i64 (spawnC (vw X Y M) fs)]) ∧ ∃ X' Y', Y'.tb = Y.tb ∧ vw X' Y' M = spawnV (vw X Y M) (toB n) fs ∧ MgIn w0 K L0 v X' Y' M w'
theorem spawn_in (h : MgIn w0 K L0 v X Y M w) (hm : Mx w0) (g : Gd N (vw X Y M)) (hN : N ≤ 10000) (n : Nm) {hv : Value} {fs : List Nm} (hr : (⟨0, 0, hv, 0, fs⟩ : RunD).Ok L0) (hsz : ∀ f ∈ fs, f.length ≤ 1000000) :
    Calls Tryz.prog 94 #[.pointer (some ⟨Y.tb, 0, none⟩), .string (toB n), hv] w (SpawnM w0 K L0 v X Y M n fs) := by
  obtain ⟨a, c, hs⟩ := hr.shape h
  dsimp only at hs
  have hlen : Y.runs.length = (vw X Y M).runs.length := by show _ = (Y.runs.map _).length; rw [List.length_map]
  have fin : ∀ (X1 : VX) (Y1 : Tab) (code pid : Int), Y1.tb = Y.tb → (if spawnC (vw X Y M) fs = 0 then Y.last + 1 else 0) = pid → spawnC (vw X Y M) fs = code → vw X1 Y1 M = spawnV (vw X Y M) (toB n) fs → ((∀ K' : Blocks, VT w0 K' L0 v X Y w → Calls Tryz.prog 94 #[.pointer (some ⟨Y.tb, 0, none⟩), .string (toB n), hv] w fun e w' => e = .returned (.tuple #[.int .i64 pid, .int .i64 code]) ∧ VT w0 K' L0 v X1 Y1 w') → Calls Tryz.prog 94 #[.pointer (some ⟨Y.tb, 0, none⟩), .string (toB n), hv] w (SpawnM w0 K L0 v X Y M n fs)) := by
    intro X1 Y1 code pid ht hp hcd hvw hc
    refine (h.call (α := Unit) (P := fun _ e => e = .returned (.tuple #[.int .i64 pid, .int .i64 code])) (X' := fun _ => X1) (Y' := fun _ => Y1) (fun _ => ht) fun K' hV => (hc K' hV).mono fun e w' hh => ⟨(), hh⟩).mono fun e w' hh => ?_
    obtain ⟨_, h1, h2⟩ := hh
    exact ⟨by rw [hp, hcd]; exact h1, X1, Y1, ht, hvw, h2⟩
  by_cases h8 : 8 < fs.length
  · have e1 : spawnC (vw X Y M) fs = 22 := by unfold spawnC; rw [if_pos h8]
    have e2 : spawnV (vw X Y M) (toB n) fs = vw X Y M := by unfold spawnV; rw [if_pos h8]
    refine fin X Y 22 0 rfl (by rw [e1]; rfl) e1 e2.symm fun K' hV => ?_
    rw [hs]
    exact spawn_many hV (toB n) a _ c h8
  by_cases h32 : 32 ≤ (vw X Y M).runs.length
  · have e1 : spawnC (vw X Y M) fs = 7 := by unfold spawnC; rw [if_neg h8, if_pos h32]
    have e2 : spawnV (vw X Y M) (toB n) fs = vw X Y M := by unfold spawnV; rw [if_neg h8, if_pos h32]
    refine fin X Y 7 0 rfl (by rw [e1]; rfl) e1 e2.symm fun K' hV => ?_
    rw [hs]
    exact spawn_full hV (toB n) a _ c (by omega) (by omega)
  have hlk : LikeX X (vw X Y M).x := ⟨rfl, rfl⟩
  obtain ⟨q1, q2, q3⟩ := hlk.holds fs []
  have hmap : (fs.map toB).map (fun p => p.data.toList) = fs := by
    rw [List.map_map]
    exact List.map_id _
  have hpl : (fs.map toB).length = fs.length := List.length_map ..
  have hps : ∀ K' : Blocks, ∀ w' X', VT w0 K' L0 v X' Y w' → ∀ i (hi : i < (fs.map toB).length), ∃ g o, a = some ⟨g, o, none⟩ ∧ w'.cell? ⟨g, o + i, none⟩ = some (.string (fs.map toB)[i]) := fun K' w' X' k i hi => by
    rw [hpl] at hi
    rcases hr with ⟨_, h2⟩ | hr
    · dsimp only at h2
      rw [h2] at hi; exact absurd hi (Nat.not_lt_zero _)
    · obtain ⟨a', c', e1, _, _, h4⟩ := k.vtx.sts hr
      dsimp only at e1
      rw [hs] at e1
      injection e1 with e1 _ _
      subst e1
      obtain ⟨b, o, rfl, _, hc⟩ := h4 (show 0 < fs.length by omega)
      exact ⟨b, o, rfl, by rw [hc i hi, List.getElem_map]⟩
  have hszb : ∀ p ∈ fs.map toB, p.size ≤ maxLen := fun p hp => by
    obtain ⟨x, hx, rfl⟩ := List.mem_map.1 hp
    rw [toB_size]
    have := hsz x hx
    unfold maxLen; omega
  have hH : HeldOk (8 * N) X := g.held.like ⟨rfl, rfl⟩
  by_cases h0 : (holdFrom (X, []) fs).1 = 0
  · have e1 : spawnC (vw X Y M) fs = 0 := by unfold spawnC; rw [if_neg h8, if_neg h32, ← q1]; exact h0
    have e2 : spawnV (vw X Y M) (toB n) fs = { (vw X Y M) with E := (holdFrom (X, []) fs).2.2.E, held := (holdFrom (X, []) fs).2.2.held, last := Y.last + 1, runs := put (vw X Y M).runs (Y.last + 1) (toB n, (holdFrom (X, []) fs).2.1, false) } := by
      unfold spawnV
      rw [if_neg h8, if_neg h32, ← q1, if_pos h0, ← q3.1, ← q3.2, ← q2]
      rfl
    have hfr : look Y.runs (Y.last + 1) = none := by
      have := g.free
      rw [runs_vw] at this
      cases hq : look Y.runs (Y.last + 1) with
      | none => rfl
      | some p =>
        rw [show (vw X Y M).last = Y.last from rfl, hq] at this
        cases this
    have hlast : 0 ≤ Y.last ∧ Y.last ≤ (N : Int) := g.last
    refine (h.call (α := Nat × Value) (P := fun _ e => e = .returned (.tuple #[.int .i64 (Y.last + 1), .int .i64 0])) (X' := fun _ => (holdFrom (X, []) fs).2.2) (Y' := fun q => { Y with last := Y.last + 1, runs := put Y.runs (Y.last + 1) ⟨q.1, toB n, q.2, (holdFrom (X, []) fs).2.1, false⟩ }) (fun _ => rfl) fun K' hV => ?_).mono fun e w' hh => ?_
    · have := spawn_yes hV hm hH (toB n) a (fs.map toB) c (by rw [hpl]; omega) hszb (hps K') (by rw [hpl]; omega) (by omega) (ids := (holdFrom (X, []) fs).2.1) (X1 := (holdFrom (X, []) fs).2.2) (by rw [hmap, ← h0]) (by omega) hfr
      rw [hpl, ← hs] at this
      exact this.mono fun e w' hh => by
        obtain ⟨k1, b, fv, k2⟩ := hh
        exact ⟨(b, fv), k1, k2⟩
    · obtain ⟨q, k1, k2⟩ := hh
      refine ⟨by rw [e1, if_pos rfl]; exact k1, _, { Y with last := Y.last + 1, runs := put Y.runs (Y.last + 1) ⟨q.1, toB n, q.2, (holdFrom (X, []) fs).2.1, false⟩ }, rfl, ?_, k2⟩
      rw [e2]
      unfold vw
      dsimp only
      rw [putV_map vwP, budX_holds]
      rfl
  · have e1 : spawnC (vw X Y M) fs = (holdFrom (X, []) fs).1 := by unfold spawnC; rw [if_neg h8, if_neg h32, ← q1]
    have e2 : spawnV (vw X Y M) (toB n) fs = vw (holdFrom (X, []) fs).2.2 Y M := by
      unfold spawnV
      rw [if_neg h8, if_neg h32, ← q1, if_neg h0, ← q3.1, ← q3.2]
      show ({ (vw X Y M) with E := (holdFrom (X, []) fs).2.2.E, held := (holdFrom (X, []) fs).2.2.held } : MV) = _
      unfold vw
      rw [budX_holds]
    refine fin (holdFrom (X, []) fs).2.2 Y (holdFrom (X, []) fs).1 0 rfl (by rw [e1, if_neg h0]) e1 e2.symm fun K' hV => ?_
    have := spawn_no hV hm hH (toB n) a (fs.map toB) c (by rw [hpl]; omega) hszb (hps K') (by rw [hpl]; omega) (by omega) (e0 := (holdFrom (X, []) fs).1) (ids := (holdFrom (X, []) fs).2.1) (X1 := (holdFrom (X, []) fs).2.2) (by rw [hmap]) h0
    rw [hpl, ← hs] at this
    exact this
end
end Go.Proofs.YtfffkgbnjakhnaaGreatDoor
end

/- issue, Start. -/
section
namespace Go.Proofs.YtfffkgbnjakhnaaGreatDoor
open Go.RowKit
open Go.ChangeMaps (setBlock)
set_option linter.unusedVariables false
set_option linter.unusedSimpArgs false
set_option maxRecDepth 100000

/-- Behind a call of a manager. -/
def MgTo (w0 : World) (K : Blocks) (L0 : List Rw) (v : Nat) (Y : Tab) (M : MS) (V' : MV) (w' : World) : Prop :=
  ∃ K' L1 X' Y' M', MgIn w0 K' L1 v X' Y' M' w' ∧ vw X' Y' M' = V' ∧ M'.m = M.m ∧ Y'.tb = Y.tb ∧ M'.g = M.g ∧ (∀ m ∈ K, m ∈ K') ∧ (∀ r ∈ L0, r ∈ L1)
section
variable {w0 w w' : World} {K K1 : Blocks} {L0 L1 : List Rw} {v : Nat} {X : VX} {Y : Tab} {M : MS} {N : Nat}
theorem MgIn.to (h : MgIn w0 K L0 v X Y M w) : MgTo w0 K L0 v Y M (vw X Y M) w := ⟨K, L0, X, Y, M, h, rfl, rfl, rfl, rfl, fun _ h => h, fun _ h => h⟩
theorem MgTo.less {V : MV} (h : MgTo w0 K1 L1 v Y M V w) (hK : ∀ m ∈ K, m ∈ K1) (hL : ∀ r ∈ L0, r ∈ L1) : MgTo w0 K L0 v Y M V w := by
  obtain ⟨K', L2, X', Y', M', h1, h2, h3, h4, h5, h6, h7⟩ := h
  exact ⟨K', L2, X', Y', M', h1, h2, h3, h4, h5, fun m hm => h6 m (hK m hm), fun r hr => h7 r (hL r hr)⟩
theorem MgTo.at {V : MV} (h : MgTo w0 K L0 v Y M V w) {us : List GU} {ord : OrdX} (hg : GKx w0 K L0 M.g us ord) (hG : Gd N V) : MgAt w0 v M.m Y.tb M.g us ord N V w := by
  obtain ⟨K', L2, X', Y', M', h1, h2, h3, h4, h5, h6, h7⟩ := h
  exact ⟨K', L2, X', Y', M', h1, h2, h3, h4, h5, hg.mono h6 h7, hG⟩
theorem evs_le (g : Gd N (vw X Y M)) (hN : N ≤ 10000) : M.evs.length ≤ 1000000 := by
  have := g.evs
  have e : (vw X Y M).evs = M.evs := rfl
  rw [e] at this
  omega
set_option maxHeartbeats 4000000 in
theorem issue_in (h : MgIn w0 K L0 v X Y M w) (hm : Mx w0) (g : Gd N (vw X Y M)) (hN : N ≤ 10000) (n : Nm) {hv : Value} {fs : List Nm} (hr : (⟨0, 0, hv, 0, fs⟩ : RunD).Ok L0) (hsz : ∀ f ∈ fs, f.length ≤ 1000000) (tries : Int) :
    Calls Tryz.prog 57 #[.pointer (some ⟨M.m, 0, none⟩), .string (toB n), hv, .int .i64 tries] w fun e w' => e = .returned (.int .i64 (issueV (vw X Y M) n fs tries).1) ∧ MgTo w0 K L0 v Y M (issueV (vw X Y M) n fs tries).2 w' := by
  have hsp := spawn_in h hm g hN n hr hsz
  obtain ⟨a, c, hs⟩ := hr.shape h
  dsimp only at hs
  obtain ⟨⟨c0, c1, c2, c3⟩, hf⟩ := h.cells
  have HE := Lib.hid (evs_le g hN)
  by_cases hcd : spawnC (vw X Y M) fs = 0
  · have hi : issueV (vw X Y M) n fs tries = (0, turnV (spawnV (vw X Y M) (toB n) fs) n ⟨1, Y.last + 1, tries, fs⟩ 0) := by
      unfold issueV
      rw [if_pos hcd]; rfl
    rw [hi]
    have HR := Lib.hid hr
    have HT := Lib.hid (fun (X1 : VX) (Y1 : Tab) (W : World) (h1 : MgIn w0 K L0 v X1 Y1 M W) => turn_in h1 n (r := ⟨1, Y.last + 1, hv, tries, fs⟩) HR.out 0 HE.out)
    have HV := Lib.hid (fun (X1 : VX) (Y1 : Tab) (ev : Value) => vw_turn X1 Y1 M n ⟨1, Y.last + 1, hv, tries, fs⟩ 0 ev)
    unfold SpawnM at hsp
    rw [hcd, if_pos rfl] at hsp
    unfold RunD.val at HT
    dsimp only at HT HV
    rw [hs] at hsp HT HV ⊢
    clear h c1 c2 c3 hf hr hs hcd hi HR g
    generalize hfl : fs.length = fl at *
    generalize Y.last = last at *
    go_enter Tryz.func57, Tryz.ntmps57
    go_wp2_with fail
    refine hsp.mono ?_
    rintro e w1 ⟨rfl, X1, Y1, ht1, hv1, h1⟩
    have ht := HT.out X1 Y1 w1 h1
    have H1 := Lib.hid (And.intro ht1 hv1)
    clear hsp h1 ht1 hv1 HT c0
    go_wp2_with fail
    refine ht.mono ?_
    rintro e w2 ⟨rfl, ev, h2⟩
    have H2 := Lib.hid h2
    clear ht h2
    go_wp2_with fail
    go_ret
    refine ⟨rfl, K, L0, X1, Y1, _, H2.out, ?_, rfl, H1.out.1, rfl, fun _ h => h, fun _ h => h⟩
    rw [← H1.out.2]
    exact HV.out X1 Y1 ev
  · have hi : issueV (vw X Y M) n fs tries = (spawnC (vw X Y M) fs, turnV (spawnV (vw X Y M) (toB n) fs) n ⟨4, 0, 0, []⟩ 4) := by
      unfold issueV
      rw [if_neg hcd]
    rw [hi]
    have HT := Lib.hid (fun (X1 : VX) (Y1 : Tab) (W : World) (h1 : MgIn w0 K L0 v X1 Y1 M W) => (turn_in h1 n (r := ⟨4, 0, .slice none 0 0, 0, []⟩) (.inl ⟨rfl, rfl⟩) 4 HE.out))
    have HV := Lib.hid (fun (X1 : VX) (Y1 : Tab) (ev : Value) => vw_turn X1 Y1 M n ⟨4, 0, .slice none 0 0, 0, []⟩ 4 ev)
    unfold SpawnM at hsp
    rw [if_neg hcd] at hsp
    unfold RunD.val at HT
    dsimp only at HT HV
    rw [hs] at hsp ⊢
    have hne : (spawnC (vw X Y M) fs != 0) = true := by simp [hcd]
    clear h c1 c2 c3 hf hr hs hcd hi g
    generalize hfl : fs.length = fl at *
    generalize hsc : spawnC (vw X Y M) fs = code at *
    generalize Y.last = last at *
    go_enter Tryz.func57, Tryz.ntmps57
    go_wp2_with fail
    refine hsp.mono ?_
    rintro e w1 ⟨rfl, X1, Y1, ht1, hv1, h1⟩
    have ht := HT.out X1 Y1 w1 h1
    have H1 := Lib.hid (And.intro ht1 hv1)
    clear hsp h1 ht1 hv1 HT c0
    go_wp2_with fail
    refine ht.mono ?_
    rintro e w2 ⟨rfl, ev, h2⟩
    have H2 := Lib.hid h2
    clear ht h2
    go_wp2_with fail
    go_ret
    refine ⟨rfl, K, L0, X1, Y1, _, H2.out, ?_, rfl, H1.out.1, rfl, fun _ h => h, fun _ h => h⟩
    rw [← H1.out.2]
    exact HV.out X1 Y1 ev
end
end Go.Proofs.YtfffkgbnjakhnaaGreatDoor
end

/- Start. -/
section
namespace Go.Proofs.YtfffkgbnjakhnaaGreatDoor
open Go.RowKit
open Go.ChangeMaps (setBlock)
set_option linter.unusedVariables false
set_option linter.unusedSimpArgs false
set_option maxRecDepth 100000

section
variable {w0 w w' : World} {v mb tb gb N : Nat} {us : List GU} {ord : OrdX} {V : MV}
/-- A unit's files are no longer than a path may be for memory. -/
def ShortF (us : List GU) : Prop := ∀ n, ∀ f ∈ (findU us n).fi, f.length ≤ 1000000
set_option maxHeartbeats 8000000 in
theorem start_at (h : MgAt w0 v mb tb gb us ord N V w) (hm : Mx w0) (hN : N ≤ 9000) (hf : ShortF us) (n : Nm) (hn : n.length ≤ n.length) :
    Calls Tryz.prog 14 #[.pointer (some ⟨mb, 0, none⟩), .string (toB n)] w fun e w' => e = .returned (.int .i64 (startV us V n).1) ∧ MgAt w0 v mb tb gb us ord (N + 2) (startV us V n).2 w' := by
  obtain ⟨K, L0, X, Y, M, h, rfl, rfl, rfl, rfl, hg, hG⟩ := h
  have hget := (hg.atM h).get2 n
  obtain ⟨⟨c0, c1, c2, c3⟩, _⟩ := h.cells
  have HG := Lib.hid hG
  have HM := Lib.hid hm
  have HF := Lib.hid (hf n)
  have HP := Lib.hid (fun (V' : MV) (W : World) (hV : (startV us (vw X Y M) n).2 = V') (hW : MgTo w0 K L0 v Y M V' W) => (show MgAt w0 v M.m Y.tb M.g us ord (N + 2) (startV us (vw X Y M) n).2 W from (by rw [hV]; exact hW.at hg (hV ▸ hG.start us n hn))))
  have HS := Lib.hid (show startV us (vw X Y M) n = (if n ∉ namesU us then (8, vw X Y M) else if (ofV (vw X Y M) n).state ≠ 0 ∧ (ofV (vw X Y M) n).state ≠ 4 then (20, vw X Y M) else if onV (vw X Y M) (findU us n).re = false then (16, vw X Y M) else issueV (vw X Y M) n (findU us n).fi 0) from rfl)
  have HO := Lib.hid (show (ofV (vw X Y M) n).state = (M.of n).state from by rw [of_vw]; rfl)
  have H := Lib.hid h
  clear h hg hG hm hf c0 c2 c3
  go_enter Tryz.func14, Tryz.ntmps14
  go_wp2_with fail
  refine hget.mono ?_
  rintro e w1 ⟨y, hy1, hy2, hU, rfl, hO⟩
  have h1 := H.out.join (S' := []) hO
  have hone := Lib.hid hU.one
  have hcs : (Tryz.prog.info? 42).map (·.size) = some y.cells.length := info_uv
  have h8 := Lib.hid (show (8 : Nat) = y.cells.length from rfl)
  have D4 := Lib.hid (show y.cells[4]? = some y.v4 from rfl)
  have D1 := Lib.hid (show y.cells[1]? = some y.v1 from rfl)
  have hin1 : (⟨0, 0, y.v1, 0, (findU us n).fi⟩ : RunD).Ok (rows6 y (findU us n) ++ L0) := .inr (List.mem_append_left _ (by simp [rows6]))
  have HI1 := Lib.hid hin1
  have HU := Lib.hid hU
  have H1 := Lib.hid h1
  have HL := Lib.hid (show ∀ r ∈ L0, r ∈ rows6 y (findU us n) ++ L0 from fun r hr => List.mem_append_right _ hr)
  have S4 := Lib.hid hU.s4
  clear hget hy1 hy2 hU hO h1 hin1 H HU
  generalize y.cells = cs at *
  generalize hbd : decide (n ∈ namesU us) = b at *
  have HBD := Lib.hid hbd
  clear hbd
  go_upto_region 2 with (refine wpList_store_new rfl 42 (.tmp 5) (.tmp 15) rfl (Own.start w1) cs w1.heap.size rfl rfl rfl h8.out hcs hone.out ?_)
  intro w2 hO2 _
  have c4 : w2.cell? ⟨w1.heap.size, 4, none⟩ = some y.v4 := by rw [hO2.cell 4 (by rw [← h8.out]; decide)]; exact D4.out
  have c5 : w2.cell? ⟨w1.heap.size, 1, none⟩ = some y.v1 := by rw [hO2.cell 1 (by rw [← h8.out]; decide)]; exact D1.out
  have h2 := H1.out.later hO2.below
  have s4 := S4.out.later hO2.below
  have hst := state_in h2 n
  have H2 := Lib.hid h2
  have HC5 := Lib.hid c5
  have HLT := Lib.hid (World.block_lt_of_cell? w2 ⟨w1.heap.size, 1, none⟩ c5)
  have HR := Lib.hid (fun (V' : MV) (W : World) (hb : Below w2.heap.size w2 W) => (show MgTo w0 K L0 v Y M (vw X Y M) W from ((h2.later hb).to).less (fun m hm => hm) HL.out))
  have hon := allOn_in h2 s4
  have HISS := Lib.hid (fun (W : World) (hb : Below w2.heap.size w2 W) => issue_in (h2.later hb) HM.out HG.out (by omega) n HI1.out HF.out 0)
  have hsh : ∃ a c, y.v1 = .slice a (findU us n).fi.length c := HI1.out.shape h2
  obtain ⟨a1, k1, hv1⟩ := hsh
  obtain ⟨a4, n4, k4, hv4⟩ := s4.shape
  clear hO2 h2 s4 D4 D1 S4 HI1 H1 hone h8 hcs c5
  generalize y.v4 = v4 at *
  generalize y.v1 = v1 at *
  subst hv1 hv4
  generalize hfl : (findU us n).fi.length = fl at *
  cases b with
  | false =>
    have hnn : n ∉ namesU us := by simpa using HBD.out
    have hs : startV us (vw X Y M) n = (8, vw X Y M) := by rw [HS.out, if_pos hnn]
    have HV := Lib.hid (HR.out (vw X Y M) w2 (Below.refl _ _))
    have HS2 := Lib.hid hs
    clear hnn hs c4 hon HISS
    generalize (M.of n).state = st at *
    go_wp2_with (go_at_call 35; refine hst.mono ?_; rintro e w9 ⟨rfl, rfl⟩)
    go_ret
    exact ⟨by rw [HS2.out]; rfl, HP.out _ _ (by rw [HS2.out]) HV.out⟩
  | true =>
    have HIN := Lib.hid (show ¬ n ∉ namesU us from by simpa using HBD.out)
    rw [HO.out] at HS
    generalize (M.of n).state = st at *
    generalize hob : onV (vw X Y M) (findU us n).re = bo at *
    have HOB := Lib.hid hob
    clear hob HO
    by_cases e0 : st = 0
    · subst e0
      have HS3 := Lib.hid (show startV us (vw X Y M) n = if bo = false then (16, vw X Y M) else issueV (vw X Y M) n (findU us n).fi 0 from by rw [HS.out, if_neg HIN.out, if_neg (by decide)])
      clear HS
      cases bo with
      | false =>
        have HS2 := Lib.hid (show startV us (vw X Y M) n = (16, vw X Y M) from by rw [HS3.out, if_pos rfl])
        clear HS3 HISS
        go_wp2_with (first
          | (go_at_call 56; refine hon.mono ?_; rintro e w3 ⟨rfl, hb3⟩; have HB3 := Lib.hid hb3; clear hb3)
          | (go_at_call 35; refine hst.mono ?_; rintro e w9 ⟨rfl, rfl⟩))
        go_ret
        exact ⟨by rw [HS2.out]; rfl, HP.out _ _ (by rw [HS2.out]) (HR.out (vw X Y M) _ HB3.out)⟩
      | true =>
        have HS2 := Lib.hid (show startV us (vw X Y M) n = issueV (vw X Y M) n (findU us n).fi 0 from by rw [HS3.out, if_neg (by decide)])
        clear HS3
        go_wp2_with (first
          | (go_at_call 57; have _g := HB3.out; clear _g; refine (HISS.out w3 HB3.out).mono ?_; rintro e w4 ⟨rfl, h4⟩; have H4 := Lib.hid h4; clear h4)
          | (go_at_call 56; refine hon.mono ?_; rintro e w3 ⟨rfl, hb3⟩; have c5 := (hb3.cell (p := ⟨w1.heap.size, 1, none⟩) HLT.out).trans HC5.out; have HB3 := Lib.hid hb3; clear hb3)
          | (go_at_call 35; refine hst.mono ?_; rintro e w9 ⟨rfl, rfl⟩))
        go_ret
        exact ⟨by rw [HS2.out]; rfl, HP.out _ _ (by rw [HS2.out]) (H4.out.less (fun m hm => hm) HL.out)⟩
    · by_cases e4 : st = 4
      · subst e4
        have HS3 := Lib.hid (show startV us (vw X Y M) n = if bo = false then (16, vw X Y M) else issueV (vw X Y M) n (findU us n).fi 0 from by rw [HS.out, if_neg HIN.out, if_neg (by decide)])
        clear HS
        cases bo with
        | false =>
          have HS2 := Lib.hid (show startV us (vw X Y M) n = (16, vw X Y M) from by rw [HS3.out, if_pos rfl])
          clear HS3 HISS
          go_wp2_with (first
            | (go_at_call 56; refine hon.mono ?_; rintro e w3 ⟨rfl, hb3⟩; have HB3 := Lib.hid hb3; clear hb3)
            | (go_at_call 35; refine hst.mono ?_; rintro e w9 ⟨rfl, rfl⟩))
          go_ret
          exact ⟨by rw [HS2.out]; rfl, HP.out _ _ (by rw [HS2.out]) (HR.out (vw X Y M) _ HB3.out)⟩
        | true =>
          have HS2 := Lib.hid (show startV us (vw X Y M) n = issueV (vw X Y M) n (findU us n).fi 0 from by rw [HS3.out, if_neg (by decide)])
          clear HS3
          go_wp2_with (first
            | (go_at_call 57; have _g := HB3.out; clear _g; refine (HISS.out w3 HB3.out).mono ?_; rintro e w4 ⟨rfl, h4⟩; have H4 := Lib.hid h4; clear h4)
            | (go_at_call 56; refine hon.mono ?_; rintro e w3 ⟨rfl, hb3⟩; have c5 := (hb3.cell (p := ⟨w1.heap.size, 1, none⟩) HLT.out).trans HC5.out; have HB3 := Lib.hid hb3; clear hb3)
            | (go_at_call 35; refine hst.mono ?_; rintro e w9 ⟨rfl, rfl⟩))
          go_ret
          exact ⟨by rw [HS2.out]; rfl, HP.out _ _ (by rw [HS2.out]) (H4.out.less (fun m hm => hm) HL.out)⟩
      · have g0 : (st != 0) = true := by simpa using e0
        have g4 : (st != 4) = true := by simpa using e4
        have HS2 := Lib.hid (show startV us (vw X Y M) n = (20, vw X Y M) from by rw [HS.out, if_neg HIN.out, if_pos ⟨e0, e4⟩])
        clear HS HISS hon e0 e4
        go_wp2_with (go_at_call 35; refine hst.mono ?_; rintro e w9 ⟨rfl, rfl⟩)
        go_ret
        exact ⟨by rw [HS2.out]; rfl, HP.out _ _ (by rw [HS2.out]) (HR.out (vw X Y M) _ (Below.refl _ _))⟩
end
end Go.Proofs.YtfffkgbnjakhnaaGreatDoor
end

/- A block of a call's own beside a manager; Ready; Kill beside a manager. -/
section
namespace Go.Proofs.YtfffkgbnjakhnaaGreatDoor
open Go.RowKit
open Go.ChangeMaps (setBlock)
set_option linter.unusedVariables false
set_option linter.unusedSimpArgs false
set_option maxRecDepth 100000

section
variable {w0 w w' : World} {K : Blocks} {L0 : List Rw} {v : Nat} {X : VX} {Y : Tab} {M : MS} {N : Nat}
end
section
variable {w0 w w' : World} {v mb tb gb N : Nat} {us : List GU} {ord : OrdX} {V : MV}
end
end Go.Proofs.YtfffkgbnjakhnaaGreatDoor
end

/- Stop. -/
section
namespace Go.Proofs.YtfffkgbnjakhnaaGreatDoor
open Go.RowKit
open Go.ChangeMaps (setBlock)
set_option linter.unusedVariables false
set_option linter.unusedSimpArgs false
set_option maxRecDepth 100000

section
variable {w0 w w' : World} {v mb tb gb N : Nat} {us : List GU} {ord : OrdX} {V : MV}
end
end Go.Proofs.YtfffkgbnjakhnaaGreatDoor
end

/- Fail. -/
section
namespace Go.Proofs.YtfffkgbnjakhnaaGreatDoor
open Go.RowKit
open Go.ChangeMaps (setBlock)
set_option linter.unusedVariables false
set_option linter.unusedSimpArgs false
set_option maxRecDepth 100000

section
variable {w0 w w' : World} {v mb tb gb N : Nat} {us : List GU} {ord : OrdX} {V : MV}
/-- What Fail makes of a unit for which something ran. -/
def endV (us : List GU) (V : MV) (n : Nm) (st tries : Int) : MV :=
  if st = 3 then turnV V n RV.zero 3 else if st = 1 ∧ n ∈ namesU us ∧ tries < (findU us n).ret ∧ onV V (findU us n).re = true then (issueV V n (findU us n).fi (tries + 1)).2 else turnV V n ⟨4, 0, 0, []⟩ 4
end
end Go.Proofs.YtfffkgbnjakhnaaGreatDoor
end

/- Pick, Events, List, State, Pid, Has of a manager. -/
section
namespace Go.Proofs.YtfffkgbnjakhnaaGreatDoor
open Go.RowKit
open Go.ChangeMaps (setBlock)
set_option linter.unusedVariables false
set_option linter.unusedSimpArgs false
set_option maxRecDepth 100000

section
variable {w0 w w' : World} {v mb tb gb N : Nat} {us : List GU} {ord : OrdX} {V : MV}
theorem pid_at (h : MgAt w0 v mb tb gb us ord N V w) (n : Nm) : Calls Tryz.prog 25 #[.pointer (some ⟨mb, 0, none⟩), .string (toB n)] w fun e w' => e = .returned (.int .i64 (ofV V n).pid) ∧ w = w' := by
  obtain ⟨K, L0, X, Y, M, h, rfl, rfl, rfl, rfl, hg, hG⟩ := h
  rw [of_vw]
  exact pid_in h n
theorem has_at (h : MgAt w0 v mb tb gb us ord N V w) (n : Nm) (hlen : (ofV V n).files.length ≤ 1000000) : Calls Tryz.prog 36 #[.pointer (some ⟨mb, 0, none⟩), .string (toB n)] w fun e w' => ∃ v', e = .returned v' ∧ Own w w' [rowSs v' (ofV V n).files] := by
  obtain ⟨K, L0, X, Y, M, h, rfl, rfl, rfl, rfl, hg, hG⟩ := h
  rw [of_vw] at hlen ⊢
  exact has_in h n hlen
theorem mgcells (h : MgAt w0 v mb tb gb us ord N V w) : w.cell? ⟨mb, 0, none⟩ = some (.pointer (some ⟨tb, 0, none⟩)) := by
  obtain ⟨K, L0, X, Y, M, h, rfl, rfl, rfl, rfl, hg, hG⟩ := h
  exact h.cells.1.1
end
end Go.Proofs.YtfffkgbnjakhnaaGreatDoor
end

/- Pick of a manager. -/
section
namespace Go.Proofs.YtfffkgbnjakhnaaGreatDoor
open Go.RowKit
open Go.ChangeMaps (setBlock)
set_option linter.unusedVariables false
set_option linter.unusedSimpArgs false
set_option maxRecDepth 100000

section
variable {w0 w w' : World} {v mb tb gb N : Nat} {us : List GU} {ord : OrdX} {V : MV}
end
end Go.Proofs.YtfffkgbnjakhnaaGreatDoor
end

/- The volume of law 16: a directory and five files in it, done at once; plain, and as a call of Do. -/
section
namespace Go.Proofs.YtfffkgbnjakhnaaGreatDoor
open Go.RowKit
open Go.ChangeMaps (setBlock)
set_option linter.unusedVariables false
set_option linter.unusedSimpArgs false
set_option maxRecDepth 100000

def pBin : List UInt8 := [47, 98, 105, 110]
def pBinS : List UInt8 := [47, 98, 105, 110, 47]
def nmsM : List (List UInt8) := [[97], [98], [99], [100], [101]]
def opM (k : Int) (p : List UInt8) : OpD := ⟨k, toB p, ⟨#[]⟩, none, 0, 0⟩
def opsM : List OpD := opM 0 pBin :: nmsM.map fun n => opM 2 (pBinS ++ n)
def xsM : List OpE := ⟨0, pBin, [], []⟩ :: nmsM.map fun n => ⟨2, pBinS ++ n, [], []⟩
def recM : List OpB := [⟨0, [47, 98, 105, 110], [], []⟩, ⟨2, [47, 98, 105, 110, 47, 97], [], []⟩, ⟨2, [47, 98, 105, 110, 47, 98], [], []⟩, ⟨2, [47, 98, 105, 110, 47, 99], [], []⟩, ⟨2, [47, 98, 105, 110, 47, 100], [], []⟩, ⟨2, [47, 98, 105, 110, 47, 101], [], []⟩]
def EM : Et := ⟨3000, 8, [(1, ⟨true, [(toB [98, 105, 110], 2)], [], 0⟩), (2, ⟨true, [(toB [97], 3), (toB [98], 4), (toB [99], 5), (toB [100], 6), (toB [101], 7)], [], 0⟩), (3, ⟨false, [], [], 1⟩), (4, ⟨false, [], [], 1⟩), (5, ⟨false, [], [], 1⟩), (6, ⟨false, [], [], 1⟩), (7, ⟨false, [], [], 1⟩)]⟩
section
variable {w0 w w' : World} {S S' S1 : Blocks} {R L L' L1 M : List Rw} {v c n d t b : Nat} {X : VX} {T T' Tc T1 : Tr} {K : Blocks}
/-- Operations in a row of the law's. -/
theorem Ops.rowD {a : Option Addr} {cp : Nat} {ops : List OpD} {xs : List OpE} (hm : rowO (.slice a ops.length cp) ops ∈ L) (hlen : xs.length = ops.length) (hin : ∀ i (h : i < ops.length), OpIn w0 S L ops[i] (xs[i]'(by omega))) : Ops w0 S L a ops xs := by
  refine ⟨hlen, fun w' S' L' k1 k2 k3 i hi => ?_, hin⟩
  have hrow := k1.only (k3 _ hm)
  obtain ⟨g, cp2, e, _⟩ := Own.form (h := (show Own ⟨w0, S'⟩ w' (⟨63, 4, .slice a ops.length cp, ops.length, (ops.map OpD.cells).flatten⟩ :: []) from hrow)) (by omega)
  injection e with e1 e2 e3
  subst e1
  refine ⟨g, 0, rfl, fun j u hj => ?_⟩
  have hj4 : j < 4 := by
    have := (List.getElem?_eq_some_iff.1 hj).1
    exact this
  have hrow2 : Own ⟨w0, S'⟩ w' (⟨63, 4, .slice (some ⟨g, 0, none⟩) ops.length cp, ops.length, (ops.map OpD.cells).flatten⟩ :: []) := hrow
  have h6 := Own.cell (h := hrow2) (i * 4 + j) (by omega)
  rw [Nat.zero_add, h6, flatO _ i j hi hj4]
  exact hj
end
end Go.Proofs.YtfffkgbnjakhnaaGreatDoor
end

/- slices.DeleteFunc over a row of numbers of the call's own. -/
section
namespace Go.Proofs.YtfffkgbnjakhnaaGreatDoor
open Go.RowKit
open Go.ChangeMaps (setBlock)
set_option linter.unusedVariables false
set_option linter.unusedSimpArgs false
set_option maxRecDepth 100000

def idxI (p : Int → Bool) (l : List Int) : Int := match l.findIdx? p with
  | none => -1
  | some k => (k : Int)
theorem idxI_cases (p : Int → Bool) (l : List Int) : (l.findIdx? p = none ∧ idxI p l = -1 ∧ ∀ x ∈ l, p x = false) ∨ ∃ k, ∃ h : k < l.length, l.findIdx? p = some k ∧ idxI p l = (k : Int) ∧ p l[k] = true ∧ ∀ j (hj : j < l.length), j < k → p l[j] = false := by
  unfold idxI
  cases h : l.findIdx? p with
  | none => exact .inl ⟨rfl, rfl, by simpa using h⟩
  | some k =>
    obtain ⟨h1, h2, h3⟩ := List.findIdx?_eq_some_iff_getElem.1 h
    exact .inr ⟨k, h1, rfl, rfl, h2, fun j hj hjk => by simpa using h3 j hjk⟩
theorem idxI_hit {p : Int → Bool} {l : List Int} {k : Nat} (hk : k < l.length) (h : p l[k] = true) (hb : ∀ j (hj : j < l.length), j < k → p l[j] = false) : idxI p l = (k : Int) := by
  rcases idxI_cases p l with ⟨_, _, e⟩ | ⟨k', hk', _, e, e3, e4⟩
  · rw [e _ (List.getElem_mem hk)] at h; cases h
  · rw [e]
    have : k' = k := by
      rcases Nat.lt_trichotomy k' k with h1 | h1 | h1
      · rw [hb k' hk' h1] at e3; cases e3
      · exact h1
      · rw [e4 k hk h1] at h; cases h
    rw [this]
theorem idxI_miss {p : Int → Bool} {l : List Int} (hb : ∀ j (hj : j < l.length), p l[j] = false) : idxI p l = -1 := by
  rcases idxI_cases p l with ⟨_, e, _⟩ | ⟨k', hk', _, e, e3, e4⟩
  · exact e
  · rw [hb k' hk'] at e3; cases e3
abbrev ints (l : List Int) : List Value := l.map (Value.int .i64)
theorem ints_length (l : List Int) : (ints l).length = l.length := by simp [ints]
/-- Numbers in memory. -/
def StI (w : World) (v : Value) (ls : List Int) : Prop :=
  ∃ a c, v = .slice a ls.length c ∧ ls.length ≤ c ∧ c ≤ maxLen ∧ (0 < ls.length → ∃ b o, a = some ⟨b, o, none⟩ ∧ b < w.heap.size ∧ ∀ (j : Nat) (h : j < ls.length), w.cell? ⟨b, o + j, none⟩ = some (.int .i64 ls[j]))
theorem StI.later {w w' : World} {v : Value} {ls : List Int} (h : StI w v ls) (hb : Below w.heap.size w w') : StI w' v ls := by
  obtain ⟨a, c, h1, h2, h3, h4⟩ := h
  refine ⟨a, c, h1, h2, h3, fun hn => ?_⟩
  obtain ⟨b, o, h5, h6, h7⟩ := h4 hn
  exact ⟨b, o, h5, Nat.lt_of_lt_of_le h6 hb.size, fun j hj => (hb.cell (p := ⟨b, o + j, none⟩) h6).trans (h7 j hj)⟩
theorem Own.stI {W0 : Base} {w : World} {v : Value} {ls : List Int} {L : List Rw} (h : Own W0 w (rowI v ls :: L)) : StI w v ls := by
  have h' : Own W0 w (⟨3, 1, v, ls.length, ints ls⟩ :: L) := h
  obtain ⟨a, c, h4, h5, h6⟩ := Own.sized (h := h')
  refine ⟨a, c, h4, h5, h6, fun hn => ?_⟩
  obtain ⟨g, cap, h1, _, hlt, _⟩ := Own.form (h := h') (by omega)
  rw [h1] at h4 h'
  injection h4 with e1 _ _
  refine ⟨g, 0, e1.symm, hlt, fun j hj => ?_⟩
  rw [Nat.zero_add, Own.cell (h := h') j (by omega), List.getElem?_map, List.getElem?_eq_getElem hj]; rfl
set_option maxHeartbeats 2000000 in
theorem index_int (g : Nat) (lb : Array Value) (p : Int → Bool) (eg : ∀ args w, (callFunc g args).run Tryz.prog w = .ok (.enter g args) w) (v : Value) (ls : List Int) (w : World) (h : StI w v ls)
    (hp : ∀ (W : World) (x : Int), x ∈ ls → Below w.heap.size w W → Calls Tryz.prog g (#[.int .i64 x] ++ lb) W fun e w' => e = .returned (.bool (p x)) ∧ Below W.heap.size W w') :
    Calls Tryz.prog 106 #[v, .func (.func g) #[] lb] w fun e w' => e = .returned (.int .i64 (idxI p ls)) ∧ Below w.heap.size w w' := by
  obtain ⟨a, c, rfl, h2, h3, h4⟩ := id h
  have h63 : ls.length ≤ 9223372036854775807 := by unfold maxLen at h3; omega
  have HC := Lib.hid h
  have HP := Lib.hid hp
  clear h h2 h3 h4 hp
  go_enter Tryz.func106, Tryz.ntmps106
  go_wp2_with fail
  go_loopw [8] (fun s8 wr => ∃ k : Nat, k ≤ ls.length ∧ s8 = .int .i64 k ∧ Hid (Below w.heap.size w wr) ∧ Hid (∀ j (hj : j < ls.length), j < k → p ls[j] = false)) (fun s8 _ => ls.length - (intOf s8).toNat)
  case atStart => exact ⟨0, Nat.zero_le _, rfl, Below.refl _ w, fun j _ hj => absurd hj (Nat.not_lt_zero _)⟩
  case round =>
    obtain ⟨k, hk, rfl, BW, A⟩ := hrel
    by_cases hlt : k < ls.length
    · obtain ⟨a', c', e, _, _, h4⟩ := HC.out.later BW.out
      injection e with e1 _ e3
      subst e1 e3
      obtain ⟨b, o, rfl, hb, hc⟩ := h4 (by omega)
      have l2 := hc k hlt
      have hcall := HP.out wr ls[k] (List.getElem_mem hlt) BW.out
      have HN := Lib.hid (fun (hq : p ls[k] = true) => idxI_hit hlt hq A.out)
      have HA := Lib.hid (fun (hq : p ls[k] = false) j (hj : j < ls.length) (hjk : j < k + 1) => (by
        rcases Nat.lt_or_ge j k with h | h
        · exact A.out j hj h
        · obtain rfl : j = k := by omega
          exact hq : p ls[j] = false))
      clear h4 hc
      generalize hy : ls[k] = y at l2 hcall
      have hyB := Lib.hid hy
      clear hy
      cases hq : p y with
      | true =>
        rw [hq] at hcall
        have hq' := Lib.hid hq
        clear hq
        go_wp2_with (go_at_fn g; refine hcall.mono ?_; rintro e w' ⟨rfl, hb'⟩)
        go_ret
        exact ⟨by rw [HN.out (by rw [hyB.out]; exact hq'.out)]; rfl, BW.out.trans (hb'.mono BW.out.size)⟩
      | false =>
        rw [hq] at hcall
        have hq' := Lib.hid hq
        clear hq
        go_wp2_with (go_at_fn g; refine hcall.mono ?_; rintro e w' ⟨rfl, hb'⟩)
        have HB := Lib.hid (BW.out.trans (hb'.mono BW.out.size))
        have HA2 := Lib.hid (HA.out (by rw [hyB.out]; exact hq'.out))
        go_roundw
        case rel => exact ⟨k + 1, by omega, by go_num, HB, HA2⟩
        case measure => simp [intOf]; omega
    · have HN := Lib.hid (idxI_miss (p := p) (l := ls) fun j hj => A.out j hj (by omega))
      go_wp2_with fail
      go_ret
      exact ⟨by rw [HN.out]; rfl, BW.out⟩
theorem row_takeI {W0 : Base} {w : World} {L : List Rw} {e g n cap : Nat} {xs : List Value} (h : Own W0 w (⟨e, 1, .slice (some ⟨g, 0, none⟩) n cap, n, xs⟩ :: L)) (k : Nat) (hk : k ≤ n) : Own W0 w (⟨e, 1, .slice (some ⟨g, 0, none⟩) k cap, k, xs.take k⟩ :: L) := by
  have hown : w.ownsRow W0.world.heap.size e 1 (.slice (some ⟨g, 0, none⟩) n cap) n xs := h.head
  have hlen := h.len
  have hap := List.pairwise_cons.1 h.apart
  refine ⟨h.below, fun p hp => ?_, List.pairwise_cons.2 ⟨fun q hq => hap.1 q hq, hap.2⟩, h.maps, fun m hm p hp => ?_⟩
  · rcases List.mem_cons.1 hp with rfl | hp
    · refine ⟨by simp at hlen ⊢; omega, ?_⟩
      rcases hown.2 with ⟨hv, hn⟩ | ⟨g', cap', cur, hv, hg, hb, hn, hcap, hsz, htk⟩
      · cases hv
      · refine .inr ⟨g', cap', cur, ?_, hg, hb, by show k ≤ _; omega, hcap, hsz, ?_⟩
        · injection hv with e1 e2 e3
          show Value.slice _ _ _ = Value.slice _ _ _
          rw [e1, e3]
        · show List.take (k * 1) cur.toList = xs.take k
          rw [Nat.mul_one]
          rw [Nat.mul_one] at htk
          have e9 : cur.toList.take k = (cur.toList.take n).take k := by rw [List.take_take]; congr 1; omega
          rw [e9, htk]
    · exact h.rows p (List.mem_cons_of_mem _ hp)
  · rcases List.mem_cons.1 hp with rfl | hp
    · exact h.offmaps m hm (⟨e, 1, .slice (some ⟨g, 0, none⟩) n cap, n, xs⟩ : Rw) (List.mem_cons_self ..)
    · exact h.offmaps m hm p (List.mem_cons_of_mem _ hp)
theorem filter_take_succI (q : Int → Bool) (ls : List Int) (j : Nat) (hj : j < ls.length) : (ls.take (j + 1)).filter q = (ls.take j).filter q ++ if q ls[j] then [ls[j]] else [] := by
  rw [List.take_succ_eq_append_getElem hj, List.filter_append]
  cases h : q ls[j] <;> simp [h]
theorem set_splitI (l : List Int) (i : Nat) (x : Int) (hi : i < l.length) : (l.set i x).take (i + 1) = l.take i ++ [x] ∧ ∀ j, i < j → (l.set i x).drop j = l.drop j := by
  constructor
  · rw [List.take_succ_eq_append_getElem (by simpa using hi), List.take_set_of_le (Nat.le_refl i)]
    simp
  · intro j hj
    rw [List.drop_set_of_lt hj]
theorem ints_set (l : List Int) (i : Nat) (x : Int) : (ints l).set i (.int .i64 x) = ints (l.set i x) := by
  simp [ints]
theorem ints_at (l : List Int) (j : Nat) (hj : j < l.length) : (ints l)[j]? = some (.int .i64 l[j]) := by
  rw [List.getElem?_map, List.getElem?_eq_getElem hj]; rfl
set_option maxHeartbeats 8000000 in
theorem delI_row {W0 : Base} {w : World} {L : List Rw} {v : Value} {ls : List Int} (h : Own W0 w (rowI v ls :: L)) (hl : ls.length ≤ 1000000) (g : Nat) (lb : Array Value) (p : Int → Bool) (eg : ∀ args w, (callFunc g args).run Tryz.prog w = .ok (.enter g args) w)
    (hp : ∀ W v' l', Own W0 W (rowI v' l' :: L) → ∀ x, Calls Tryz.prog g (#[.int .i64 x] ++ lb) W fun e w' => e = .returned (.bool (p x)) ∧ Below W.heap.size W w') :
    Calls Tryz.prog 68 #[v, .func (.func g) #[] lb] w fun e w' => ∃ v', e = .returned v' ∧ Own W0 w' (rowI v' (ls.filter fun x => !p x) :: L) := by
  have ki := index_int g lb p eg v ls w h.stI (fun W x _ hb => hp W v ls (h.later hb) x)
  obtain ⟨a, n0, c, hv⟩ := (show ∃ a n c, v = .slice a n c from (by obtain ⟨a, c, e, _⟩ := h.stI; exact ⟨a, _, c, e⟩))
  subst hv
  have H := Lib.hid h
  have HP := Lib.hid hp
  have hn0 : n0 = ls.length := by
    obtain ⟨a', c', e', _⟩ := h.stI
    injection e'
  subst hn0
  have hlz : (ls.length : Int) ≤ 1000000 := by omega
  clear h hp
  rcases idxI_cases p ls with ⟨_, e2, e3⟩ | ⟨k, hk, _, e2, e3, e4⟩
  · rw [e2] at ki
    have HE := Lib.hid (show (ls.filter fun x => !p x) = ls from List.filter_eq_self.2 fun x hx => by rw [e3 x hx]; rfl)
    clear e2 e3
    go_enter Tryz.func68, Tryz.ntmps68
    go_wp2_with (go_at_call 106; refine ki.mono ?_; rintro e w1 ⟨rfl, hb1⟩; have HB := Lib.hid hb1; clear hb1)
    go_ret
    exact ⟨_, rfl, by rw [HE.out]; exact H.out.later HB.out⟩
  · rw [e2] at ki
    obtain ⟨b, cap, hf, hf1, hf2, hf3, hf4⟩ := Own.form (h := (show Own W0 w (⟨3, 1, .slice a ls.length c, ls.length, ints ls⟩ :: L) from H.out)) (by omega)
    injection hf with hf _ hfc
    subst hf hfc
    have HE := Lib.hid (show (ls.take (k + 1)).filter (fun x => !p x) = ls.take k from by
      rw [filter_take_succI _ _ _ hk, e3]
      rw [List.filter_eq_self.2 fun x hx => by
        obtain ⟨j, hj, rfl⟩ := List.getElem_of_mem hx
        rw [List.length_take] at hj
        rw [List.getElem_take, e4 j (by omega) (by omega)]; rfl]
      simp)
    have hkz : (k : Int) < (ls.length : Int) := by omega
    have hkn : ((k : Int) == -1) = false := beq_eq_false_iff_ne.2 (by omega)
    have Hk := Lib.hid hk
    have HF := Lib.hid (show ls.length ≤ c ∧ c ≤ maxLen from ⟨hf3, hf4⟩)
    have hcz : (ls.length : Int) ≤ (c : Int) ∧ (c : Int) ≤ 9223372036854775807 := by unfold maxLen at hf4; omega
    clear e2 e3 e4 hk hf1 hf2 hf3 hf4
    go_enter Tryz.func68, Tryz.ntmps68
    go_upto_region 4 with (go_at_call 106; refine ki.mono ?_; rintro e w1 ⟨rfl, hb1⟩; have H1 := Lib.hid (H.out.later hb1); clear hb1)
    go_wp2_with fail
    go_loopw [5, 6] (fun s5 s6 wr => ∃ (i j : Nat) (l' : List Int), i < j ∧ j ≤ ls.length ∧ s5 = .int .i64 i ∧ s6 = .int .i64 j ∧ Hid (Own W0 wr (rowI (.slice (some ⟨b, 0, none⟩) l'.length c) l' :: L)) ∧ Hid (l'.length = ls.length ∧ l'.take i = (ls.take j).filter (fun x => !p x) ∧ l'.drop j = ls.drop j)) (fun _ s6 _ => ls.length - (intOf s6).toNat)
    case atStart => exact ⟨k, k + 1, ls, by omega, by have := Hk.out; omega, rfl, by go_num, H1.out, rfl, by rw [HE.out], rfl⟩
    case round =>
      obtain ⟨i, j, l', hij, hj, rfl, rfl, HO, HL⟩ := hrel
      obtain ⟨hl1, hl2, hl3⟩ := HL.out
      have hO : Own W0 wr (⟨3, 1, .slice (some ⟨b, 0, none⟩) ls.length c, ls.length, ints l'⟩ :: L) := by
        have := HO.out
        rw [← hl1]
        exact this
      by_cases hlt : j < ls.length
      · have hjl : j < l'.length := by omega
        have hx : l'[j] = ls[j] := by
          have e1 := List.drop_eq_getElem_cons hjl
          have e2 := List.drop_eq_getElem_cons hlt
          rw [hl3, e2] at e1
          injection e1 with e1 _
          exact e1.symm
        have cj : wr.cell? ⟨b, j, none⟩ = some (.int .i64 ls[j]) := by
          rw [hO.cell j (by omega), ints_at l' j hjl, hx]
        have kc := HP.out wr (.slice (some ⟨b, 0, none⟩) l'.length c) l' HO.out ls[j]
        have HOr := Lib.hid hO
        have hjz : (j : Int) < (ls.length : Int) := by omega
        have hiz : (i : Int) < (ls.length : Int) := by omega
        have HFs := Lib.hid (filter_take_succI (fun x => !p x) ls j hlt)
        have hdr : l'.drop (j + 1) = ls.drop (j + 1) := by
          have e1 := List.drop_eq_getElem_cons hjl
          have e2 := List.drop_eq_getElem_cons hlt
          rw [hl3, e2] at e1
          injection e1 with _ e1
          exact e1.symm
        have HDr := Lib.hid hdr
        have HL1 := Lib.hid hl1
        have HL2 := Lib.hid hl2
        have Hij := Lib.hid hij
        have HSet := Lib.hid (set_splitI l' i ls[j] (by omega))
        clear hO hl1 hl2 hl3 hx hdr
        generalize hxx : ls[j] = x at *
        clear hxx
        have Hxs := Lib.hid (ints_set l' i x)
        cases hpx : p x with
        | true =>
          rw [hpx] at kc HFs
          have HR := Lib.hid (fun w2 (hb : Below wr.heap.size wr w2) => HO.out.later hb)
          have HN := Lib.hid (show l'.length = ls.length ∧ l'.take i = (ls.take (j + 1)).filter (fun x => !p x) ∧ l'.drop (j + 1) = ls.drop (j + 1) from ⟨HL1.out, by rw [HFs.out, HL2.out]; simp, HDr.out⟩)
          clear hpx
          go_wp2_with (go_at_fn g; refine kc.mono ?_; rintro e w2 ⟨rfl, hb2⟩; have HR2 := Lib.hid (HR.out w2 hb2); clear hb2)
          go_roundw
          case rel => exact ⟨i, j + 1, l', by omega, by omega, rfl, by go_num, HR2.out, HN.out⟩
          case measure => simp [intOf]; omega
        | false =>
          rw [hpx] at kc HFs
          have HN := Lib.hid (show (l'.set i x).length = ls.length ∧ (l'.set i x).take (i + 1) = (ls.take (j + 1)).filter (fun x => !p x) ∧ (l'.set i x).drop (j + 1) = ls.drop (j + 1) from ⟨by rw [List.length_set]; exact HL1.out, by rw [HSet.out.1, HFs.out, HL2.out]; simp, by rw [HSet.out.2 _ (by have := Hij.out; omega)]; exact HDr.out⟩)
          clear hpx
          have HR := Lib.hid (fun w2 (hb : Below wr.heap.size wr w2) => HOr.out.later hb)
          go_wp2_with (go_at_fn g; refine kc.mono ?_; rintro e w2 ⟨rfl, hb2⟩; have HR2 := Lib.hid (HR.out w2 hb2); have ci2 := (HR.out w2 hb2).there 0 ls.length (by omega) i (by omega); rw [Nat.zero_add] at ci2; obtain ⟨ci3, fi3⟩ := ci2; obtain ⟨vi, ci4⟩ := Option.isSome_iff_exists.1 ci3; clear hb2 ci3)
          have HR3 : Hid (Own W0 (w2.setCell ⟨b, i, none⟩ (.int .i64 x)) (rowI (.slice (some ⟨b, 0, none⟩) (l'.set i x).length c) (l'.set i x) :: L)) := by
            have h1 := Own.set (h := HR2.out) i (.int .i64 x)
            rw [Hxs.out] at h1
            show Own W0 _ (⟨3, 1, .slice (some ⟨b, 0, none⟩) (l'.set i x).length c, (l'.set i x).length, ints (l'.set i x)⟩ :: L)
            rw [HN.out.1]
            exact h1
          clear ci4 fi3
          go_roundw
          case rel => exact ⟨i + 1, j + 1, l'.set i x, by omega, by omega, by go_num, by go_num, HR3.out, HN.out⟩
          case measure => simp [intOf]; omega
      · obtain rfl : j = ls.length := by omega
        have hfl : (ls.filter fun x => !p x).length = i := by
          rw [List.take_length] at hl2
          rw [← hl2, List.length_take]; omega
        have hft : (ints l').take i = ints (ls.filter fun x => !p x) := by
          rw [List.take_length] at hl2
          rw [← hl2]; simp [ints]
        have hcl : ∀ ty, (Builtin.clear_ #[109] ty #[.slice (some ⟨b, i, none⟩) (ls.length - i) (c - i)]).run Tryz.prog wr = .ok (.tuple #[]) (wr.setCells b i (List.replicate (ls.length - i) (.int .i64 0))) := fun ty =>
          Lib.run_clear_slice wr 109 3 ty (.int .i64 0) Tryz.underlying109 (fun w => zeroIntW w) rfl rfl b i (ls.length - i) (c - i) (by omega) (fun q hq => by
            rw [hO.cell (i + q) (by omega), List.getElem?_eq_getElem (by rw [ints_length]; omega)]; rfl) (fun q hq => hO.free _)
        have h9 : Own W0 (wr.setCells b i (List.replicate (ls.length - i) (.int .i64 0))) (rowI (.slice (some ⟨b, 0, none⟩) i c) (ls.filter fun x => !p x) :: L) := by
          have h1 := row_takeI (hO.setCells (List.replicate (ls.length - i) (.int .i64 0)) i) i (by omega)
          have e1 : (splice (ints l') i (List.replicate (ls.length - i) (.int .i64 0))).take i = ints (ls.filter fun x => !p x) := by
            rw [← hft]
            apply List.ext_getElem?
            intro q
            by_cases hq : q < i
            · rw [List.getElem?_take_of_lt hq, List.getElem?_take_of_lt hq, splice_get _ _ _ _ (by simp [ints]; omega), if_neg (by omega)]
            · rw [List.getElem?_take_eq_none (by omega), List.getElem?_take_eq_none (by omega)]
          rw [e1] at h1
          show Own W0 _ (⟨3, 1, _, (ls.filter fun x => !p x).length, _⟩ :: L)
          rw [hfl]
          exact h1
        have H9 := Lib.hid h9
        have hiz : (i : Int) < (ls.length : Int) := by omega
        have hiN : i < ls.length := hij
        clear hO hl1 hl2 hl3 hfl hft h9 hlt hj
        go_wp2_with fail
        go_ret
        exact ⟨_, rfl, H9.out⟩
end Go.Proofs.YtfffkgbnjakhnaaGreatDoor
end

/- Do of a volume, where all goes well: loose files that nobody holds go. -/
section
namespace Go.Proofs.YtfffkgbnjakhnaaGreatDoor
open Go.RowKit
open Go.ChangeMaps (setBlock)
set_option linter.unusedVariables false
set_option linter.unusedSimpArgs false
set_option maxRecDepth 100000

theorem del_filter9 {β : Type} {m : List (Int × β)} (hd : (m.map (·.1)).Nodup) (a : Int) : del m a = m.filter fun p => !decide (p.1 = a) := by
  induction m with
  | nil => rfl
  | cons q r ih =>
    have hd' := List.nodup_cons.1 (show (q.1 :: r.map (·.1)).Nodup from hd)
    unfold del
    by_cases hq : q.1 = a
    · rw [if_pos hq, List.filter_cons, decide_eq_true hq]
      simp only [Bool.not_true, Bool.false_eq_true, if_false]
      refine (List.filter_eq_self.2 fun x hx => ?_).symm
      have : x.1 ≠ a := fun e => hd'.1 (by rw [hq, ← e]; exact List.mem_map.2 ⟨x, hx, rfl⟩)
      simp [this]
    · rw [if_neg hq, List.filter_cons, decide_eq_false hq, ih hd'.2]
      simp
theorem reapE_filter (ids : List Int) : ∀ (E : Et), (E.nodes.map (·.1)).Nodup → ids.Nodup → (∀ i ∈ ids, ∃ n, look E.nodes i = some n ∧ n.loose = true) → reapE E ids = { E with nodes := E.nodes.filter fun p => !ids.contains p.1 } := by
  induction ids with
  | nil =>
    intro E _ _ _
    show E = _
    have : (E.nodes.filter fun p => !([] : List Int).contains p.1) = E.nodes := List.filter_eq_self.2 fun x _ => rfl
    rw [this]
  | cons i r ih =>
    intro E hd hn hl
    have hn' := List.nodup_cons.1 hn
    obtain ⟨n, h1, h2⟩ := hl i (List.mem_cons_self ..)
    have hr1 : reap1 E i = { E with nodes := del E.nodes i } := by
      unfold reap1
      rw [h1]
      simp only
      rw [if_pos h2]
    show reapE (reap1 E i) r = _
    rw [hr1, ih _ (hd.sublist ((del_sub E.nodes i).map _)) hn'.2 (fun j hj => by
      obtain ⟨m, h3, h4⟩ := hl j (List.mem_cons_of_mem _ hj)
      exact ⟨m, by rw [look_del_ne (fun e : j = i => hn'.1 (by rw [← e]; exact hj))]; exact h3, h4⟩)]
    show ({ E with nodes := (del E.nodes i).filter _ } : Et) = _
    rw [del_filter9 hd, List.filter_filter]
    congr 1
    refine List.filter_congr fun x _ => ?_
    rw [List.contains_cons]
    cases h : decide (x.1 = i) <;> simp_all
/-- Loose files that nobody holds go. -/
def sweepE (E : Et) (held : List (Int × Int)) : Et := { E with nodes := E.nodes.filter fun p => !(p.2.loose && !decide (0 < heldN held p.1)) }
theorem looseE_len (nodes : List (Int × ENd)) : (looseE nodes).length ≤ nodes.length := by
  unfold looseE
  rw [List.length_map]
  exact List.length_filter_le ..
theorem look_of_mem9 {β : Type} {m : List (Int × β)} (hd : (m.map (·.1)).Nodup) {p : Int × β} (hp : p ∈ m) : look m p.1 = some p.2 := by
  induction m with
  | nil => cases hp
  | cons q r ih =>
    have hd' := List.nodup_cons.1 (show (q.1 :: r.map (·.1)).Nodup from hd)
    unfold look
    rcases List.mem_cons.1 hp with rfl | hp
    · rw [if_pos rfl]
    · rw [if_neg (fun e => hd'.1 (by rw [e]; exact List.mem_map.2 ⟨p, hp, rfl⟩))]
      exact ih hd'.2 hp
theorem mem_looseE {nodes : List (Int × ENd)} {i : Int} : i ∈ looseE nodes ↔ ∃ n, (i, n) ∈ nodes ∧ n.loose = true := by
  unfold looseE ENd.loose
  constructor
  · intro h
    obtain ⟨p, hp, rfl⟩ := List.mem_map.1 h
    obtain ⟨h1, h2⟩ := List.mem_filter.1 hp
    exact ⟨p.2, h1, by simpa using h2⟩
  · rintro ⟨n, h1, h2⟩
    exact List.mem_map.2 ⟨(i, n), List.mem_filter.2 ⟨h1, by simpa using h2⟩, rfl⟩
theorem sweep_eq {E : Et} {zs : List Int} (hd : (E.nodes.map (·.1)).Nodup) (hp : zs.Perm (looseE E.nodes)) (held : List (Int × Int)) : reapE E (zs.filter fun i => !decide (0 < heldN held i)) = sweepE E held := by
  have hnz : zs.Nodup := hp.nodup_iff.2 (by
    unfold looseE
    exact hd.sublist (List.filter_sublist.map _))
  rw [reapE_filter _ E hd (hnz.sublist List.filter_sublist) (fun i hi => by
    obtain ⟨n, h1, h2⟩ := mem_looseE.1 (hp.subset (List.mem_filter.1 hi).1)
    exact ⟨n, look_of_mem9 hd h1, h2⟩)]
  unfold sweepE
  congr 1
  refine List.filter_congr fun p hpm => ?_
  have key : (zs.filter fun i => !decide (0 < heldN held i)).contains p.1 = (p.2.loose && !decide (0 < heldN held p.1)) := by
    rw [Bool.eq_iff_iff, List.contains_iff_mem, List.mem_filter, Bool.and_eq_true]
    constructor
    · rintro ⟨h1, h2⟩
      obtain ⟨n, h3, h4⟩ := mem_looseE.1 (hp.subset h1)
      have h5 := look_of_mem9 hd h3
      rw [look_of_mem9 hd hpm] at h5
      injection h5 with h5
      exact ⟨by rw [h5]; exact h4, h2⟩
    · rintro ⟨h1, h2⟩
      exact ⟨hp.symm.subset (mem_looseE.2 ⟨p.2, hpm, h1⟩), h2⟩
  rw [key]
abbrev doneS (X : VX) (ops : List OpD) (xs : List OpE) (D' : Dk) : VX :=
  { X with E := sweepE (DoE X.E xs).2 X.held, B := X.B + xs.length, D := D', used := X.used + roomM (recO (pks ops xs)).length, recs := X.recs ++ [recO (pks ops xs)], st := X.st + 100 }
section
variable {w0 w w' : World} {S S' S1 : Blocks} {R L L' L1 M : List Rw} {v c n : Nat} {X X' X1 X2 : VX} {T T' Tc T1 : Tr} {K : Blocks} {sv : Value} {zs : List Int}
theorem VolIn.push (h : VolIn w0 S R L v X T w) {w1 : World} {r : Rw} (hO : Own ⟨w0, S⟩ w1 (r :: (R ++ L))) : VolIn w0 S R (r :: L) v X T w1 :=
  { h with
    own := hO.perm List.perm_middle.symm
    tree := h.tree.mono (fun b x _ hx => hx) (fun v zs hh => hh.mono fun x hx => List.mem_cons_of_mem _ hx) }
/-- Out of a row of files those stay that nobody holds. -/
theorem del_held (hO : Own ⟨w0, S⟩ w (rowI sv zs :: (R ++ L))) (h : VolIn w0 S R L v X T w) (hn : zs.length ≤ 1000000) (bx : Nat) {bt : TypeId} (hbx : (bx, .cells #[.pointer (some ⟨v, 0, none⟩)] bt) ∈ S) :
    Calls Tryz.prog 68 #[sv, .func (.func 70) #[] #[.pointer (some ⟨bx, 0, none⟩)]] w fun e w' => ∃ a c, e = .returned (.slice a (zs.filter fun i => !decide (0 < heldN X.held i)).length c) ∧ VolIn w0 S R (rowI (.slice a (zs.filter fun i => !decide (0 < heldN X.held i)).length c) (zs.filter fun i => !decide (0 < heldN X.held i)) :: L) v X T w' := by
  refine (delI_row hO hn 70 #[.pointer (some ⟨bx, 0, none⟩)] (fun i => decide (0 < heldN X.held i)) (fun args w => by rfl) fun W v' l' hO' x => ?_).mono fun e w' hd => ?_
  · have h2 : VolIn w0 S R L v X T W := { h with own := hO'.tail }
    have hb : W.cell? ⟨bx, 0, none⟩ = some (.pointer (some ⟨v, 0, none⟩)) := by rw [h2.own.cellB hbx]; rfl
    exact (ask_any h2 bx hb x).mono fun e w' hh => ⟨hh.1, hh.2 ▸ Below.refl _ _⟩
  · obtain ⟨v', e1, e2⟩ := hd
    obtain ⟨a, c, ev, _, _⟩ := Own.sized (h := (show Own ⟨w0, S⟩ w' (⟨3, 1, v', (zs.filter fun i => !decide (0 < heldN X.held i)).length, ints (zs.filter fun i => !decide (0 < heldN X.held i))⟩ :: (R ++ L)) from e2))
    subst ev
    exact ⟨a, c, e1, h.push e2⟩
theorem VolIn.reapSome (h : VolIn w0 S R L v X T w) {a : Option Addr} {ids : List Int} {cp : Nat} (hr : rowI (.slice a ids.length cp) ids ∈ L) (hn : ids.length ≤ 1000000) : Calls Tryz.prog 67 #[.pointer (some ⟨X.t, 0, none⟩), .slice a ids.length cp] w fun e w' => e = .returned (.tuple #[]) ∧ VolTo w0 S L v X T w.heap.size { X with E := reapE X.E ids } w' := by
  have := h.turn (f := 67) (args := #[.pointer (some ⟨X.t, 0, none⟩), .slice a ids.length cp]) (r := .tuple #[]) (E' := reapE X.E ids) (B' := X.B) (reapE_inv ids h.inv) fun S1 _ k1 k2 => reap_any k1 k2 h.rep h.inv a ids cp hn (fun w' S' hO' _ i hi => by
    obtain ⟨a', c', e, _, _, h4⟩ := (hO'.only hr).stI
    injection e with e1 _ _
    subst e1
    obtain ⟨b, o, rfl, _, hc⟩ := h4 (by omega)
    exact ⟨b, o, rfl, hc i hi⟩)
  exact this
theorem to_cells9 {b m : Nat} {bt : TypeId} {bv : Value} (k : VolTo w0 S L v X T m X' w') (hb : (b, .cells #[bv] bt) ∈ S) (hn : b ∉ v :: X.hm :: X.t :: T.foot) : w'.cell? ⟨b, 0, none⟩ = some bv ∧ w'.cell? ⟨v, 0, none⟩ = some (.pointer (some ⟨X.t, 0, none⟩)) := by
  obtain ⟨S', R', L', T', h1, _, h3, _, h5, _⟩ := k
  exact ⟨by rw [h1.own.cellB (h3 _ _ hb hn)]; rfl, h5 ▸ h1.atV.1.1⟩
set_option maxHeartbeats 16000000 in
theorem vdo_all (h : VolIn w0 S R L v X T w) (hm : Mx w0) {a : Option Addr} {ops : List OpD} {xs : List OpE} (ho : Ops w0 S L a ops xs) (cap : Nat) (hk : ∀ o ∈ ops, 0 ≤ o.kind ∧ o.kind < 4294967296) (hs : ∀ o ∈ ops, o.p.size ≤ 100000 ∧ o.q.size ≤ 100000) (hz : ∀ x ∈ xs, x.zs.length ≤ 100000) (hq : ∀ o ∈ ops, o.kind = 4 ∨ o.kind = 5 ∨ o.q = ⟨#[]⟩)
    (hn0 : 0 < ops.length) (hB : X.B + ops.length ≤ 100000) (hE : (DoE X.E xs).1 = 0) (hl : (recO (pks ops xs)).length ≤ 4096) (hf : X.used + roomM (recO (pks ops xs)).length ≤ X.h) (hst : X.st ≤ 1000000000) :
    Calls Tryz.prog 26 #[.pointer (some ⟨v, 0, none⟩), .slice a ops.length cap] w fun e w' => e = .returned (.int .i64 0) ∧ ∃ D', VolTo w0 S L v X T w.heap.size (doneS X ops xs D') w' := by
  have hxl := ho.len
  have hlt : ∀ b x, (b, x) ∈ S → b < w.heap.size := fun b x hb => (h.own.atLt hb).2
  have hvlt : ∀ b ∈ v :: X.hm :: X.t :: T.foot, b < w.heap.size := fun b hb => (h.lt hb).2
  have hI1 : Inv (DoE X.E xs).2 (X.B + xs.length) := DoE_inv h.inv xs
  obtain ⟨w1, hw1⟩ : ∃ w1, w1 = w.alloc (.cells #[.pointer (some ⟨v, 0, none⟩)] 30) := ⟨_, rfl⟩
  have h1 : VolIn w0 ((w.heap.size, .cells #[.pointer (some ⟨v, 0, none⟩)] 30) :: S) R L v X T w1 := by
    rw [hw1]; exact h.base (h.own.newB _) (fun b x hx _ => List.mem_cons_of_mem _ hx)
  obtain ⟨bx, hbx⟩ : ∃ bx, w.heap.size = bx := ⟨_, rfl⟩
  rw [hbx] at h1 hlt hvlt ⊢
  have hsz1 : w1.heap.size = bx + 1 := by rw [hw1, ← hbx]; simp
  have hb1 : w1.cell? ⟨bx, 0, none⟩ = some (.pointer (some ⟨v, 0, none⟩)) := by rw [h1.own.cellB (List.mem_cons_self ..)]; rfl
  have hdead := dead_any h1
  rw [hw1] at hdead hb1
  have Hsz1 := Lib.hid hsz1
  have Hlt := Lib.hid hlt
  have Hvlt := Lib.hid hvlt
  have Ho := Lib.hid ho
  have HI := Lib.hid hI1
  have Hl := Lib.hid hl
  have Hf := Lib.hid hf
  have Hk := Lib.hid hk
  have Hs := Lib.hid hs
  have Hz := Lib.hid hz
  have Hq := Lib.hid hq
  have Hx := Lib.hid hxl
  have HE := Lib.hid hE
  have Hw1 := Lib.hid hw1
  clear h h1 hlt hvlt ho hI1 hl hf hk hs hz hq hxl hE hsz1 hw1
  subst hbx
  go_enter Tryz.func26, Tryz.ntmps26
  go_wp2_with fail
  refine hdead.mono ?_
  rintro e w2 ⟨rfl, h2, hsz2⟩
  rw [← Hw1.out, Hsz1.out] at hsz2
  have hb2 : w2.cell? ⟨w.heap.size, 0, none⟩ = some (.pointer (some ⟨v, 0, none⟩)) := by rw [h2.own.cellB (List.mem_cons_self ..)]; rfl
  obtain ⟨⟨c0, _, _, _, _⟩, _⟩ := h2.atV
  have hwk := work_any h2
  have H2 := Lib.hid h2
  clear hdead hb1 h2
  go_wp2_with fail
  refine hwk.mono ?_
  rintro e w3 ⟨c, S3, Tc, rfl, h3, hc3, hr3, hs3, hf3⟩
  have hcw : c < w3.heap.size := (h3.own.atLt hc3.at_.cells).2
  have hcl := hf3 c (List.mem_cons_self ..)
  have hS3 : ∀ b x, (b, x) ∈ S → (b, x) ∈ S3 := fun b x hx => hs3 b x (List.mem_cons_of_mem _ hx)
  have hbS3 := hs3 _ _ (List.mem_cons_self ..)
  have hdo := work_do (n := w2.heap.size) h3 hm hc3 hr3 hf3 (fun b hb => by have := Hvlt.out b hb; omega) (by omega) (Ho.out.mono hS3 (fun x hx => hx)) cap (by omega)
  rw [HE.out] at hdo
  have HS3 := Lib.hid hS3
  have HbS3 := Lib.hid hbS3
  have Hf3 := Lib.hid hf3
  clear hwk c0 hb2 h3 hc3 hr3 hs3 hf3 hS3 hbS3 H2
  go_wp2_with fail
  refine hdo.mono ?_
  rintro e w4 ⟨rfl, S4, L4, Tc4, h4, hL4, hc4, hr4, hs4, hf4⟩
  have hbS4 := hs4 _ _ HbS3.out (fun hm => by have := Hf3.out _ hm; omega)
  have hS4 : ∀ b x, (b, x) ∈ S → (b, x) ∈ S4 := fun b x hx => hs4 b x (HS3.out b x hx) (fun hm => by have := Hf3.out _ hm; have := Hlt.out b x hx; omega)
  have hb4 : w4.cell? ⟨w.heap.size, 0, none⟩ = some (.pointer (some ⟨v, 0, none⟩)) := by rw [h4.own.cellB hbS4]; rfl
  have hkp := keep_yes h4 (Ops.pack (Ho.out.mono hS4 hL4) Hk.out Hs.out Hz.out) (.pointer (some ⟨c, 0, none⟩)) cap (by rw [pks_len Hx.out]; exact hn0) (by rw [pks_len Hx.out]; omega) (fun o ho => by
    obtain ⟨i, hi, rfl⟩ := List.getElem_of_mem ho
    rw [pks_len Hx.out] at hi
    rw [pks_get Hx.out i hi]
    exact Hq.out _ (List.getElem_mem _)) Hl.out Hf.out hst
  rw [pks_len Hx.out] at hkp
  have HS4 := Lib.hid hS4
  have HbS4 := Lib.hid hbS4
  have Hf4 := Lib.hid hf4
  have HL4 := Lib.hid hL4
  have Hc4 := Lib.hid hc4
  have Hr4 := Lib.hid hr4
  clear hdo h4 hc4 hr4 hs4 hf4 hS4 hbS4 hL4
  go_wp2_with fail
  refine hkp.mono ?_
  rintro e w5 ⟨rfl, R5, L5, D5, h5, hL5⟩
  have hc5 : Tree S4 (Pc L5) c Tc4 := Hc4.out.mono (fun b x _ hx => hx) (fun _ _ hh => hh.mono hL5)
  have h6 := h5.drew.takes hc5 Hr4.out HI.out (fun b hb hm => by
    have := Hf4.out b hm
    have := Hvlt.out b hb
    omega)
  have hb5 : w5.drew.cell? ⟨w.heap.size, 0, none⟩ = some (.pointer (some ⟨v, 0, none⟩)) := by rw [h5.drew.own.cellB HbS4.out]; rfl
  obtain ⟨⟨c0, _, _, _, _⟩, _⟩ := h5.drew.atV
  obtain ⟨a0, a1, a2⟩ := (hc5.at_.inWorld h5.drew.ownL).at0
  have ht5 := h5.drew.own.at h5.tree.at_.cells
  have f0 := free_at ht5 0
  have f1 := free_at ht5 1
  have f2 := free_at ht5 2
  have b0 : w5.drew.cell? ⟨X.t, 0, none⟩ = some (.int .i64 T.quota) := cell_at ht5 0
  have b1 : w5.drew.cell? ⟨X.t, 1, none⟩ = some (.int .i64 T.next) := cell_at ht5 1
  have b2 : w5.drew.cell? ⟨X.t, 2, none⟩ = some (.map (some T.bm)) := cell_at ht5 2
  have H6 := Lib.hid h6
  have HL5 := Lib.hid (fun x (hx : x ∈ L) => hL5 x (HL4.out x hx))
  clear hkp h5 hc5 h6 hL5 ht5 hb4
  have hbu : (w.heap.size, Obj.cells #[.pointer (some ⟨v, 0, none⟩)] 30) ∈ upd S4 X.t (.cells (treeCells Tc4) 131) := upd_other HbS4.out (fun e => by
    have := Hvlt.out X.t (List.mem_cons_of_mem _ (List.mem_cons_of_mem _ (List.mem_cons_self ..)))
    omega) _
  have HbS6 := Lib.hid hbu
  have HS6 := Lib.hid (fun b x (hx : (b, x) ∈ S) (hb : b ∉ v :: X.hm :: X.t :: T.foot) => upd_other (HS4.out b x hx) (fun e => hb (e ▸ List.mem_cons_of_mem _ (List.mem_cons_of_mem _ (List.mem_cons_self ..)))) (.cells (treeCells Tc4) 131))
  have HF6 := Lib.hid (fun b (hb : b ∈ X.t :: Tc4.foot) => (show b ∈ X.t :: T.foot ∨ w.heap.size ≤ b from by
    rcases List.mem_cons.1 hb with rfl | hb
    · exact .inl (List.mem_cons_self ..)
    · have := Hf4.out b (List.mem_cons_of_mem _ hb)
      exact .inr (by omega)))
  have HbF0 : w.heap.size ∉ v :: X.hm :: X.t :: Tc4.foot := fun hm => by
    rcases List.mem_cons.1 hm with e | hm
    · have := Hvlt.out v (List.mem_cons_self ..); omega
    · rcases List.mem_cons.1 hm with e | hm
      · have := Hvlt.out X.hm (List.mem_cons_of_mem _ (List.mem_cons_self ..)); omega
      · rcases List.mem_cons.1 hm with e | hm
        · have := Hvlt.out X.t (List.mem_cons_of_mem _ (List.mem_cons_of_mem _ (List.mem_cons_self ..))); omega
        · have := Hf4.out _ (List.mem_cons_of_mem _ hm); omega
  obtain ⟨w6, hw6⟩ : ∃ w6, w6 = (((w5.drew.setCell ⟨X.t, 0, none⟩ (.int .i64 Tc4.quota)).setCell ⟨X.t, 1, none⟩ (.int .i64 Tc4.next)).setCell ⟨X.t, 2, none⟩ (.map (some Tc4.bm))) := ⟨_, rfl⟩
  rw [← hw6] at H6
  clear hbu HbS4 HS4 Hf4 Hr4 Hc4 HL4 HS3 HbS3 Hf3 Ho Hl Hf Hk Hs Hz Hq HE
  go_wp2_with fail
  go_still_tail 8, (by kernel_rfl)
  repeat still_step
  change wpList _ _ _ _ _ w5.drew
  generalize w5.drew = wd at *
  go_wp2_with fail
  rw [← hw6]
  have hb6 : w6.cell? ⟨w.heap.size, 0, none⟩ = some (.pointer (some ⟨v, 0, none⟩)) := by rw [H6.out.own.cellB HbS6.out]; rfl
  obtain ⟨⟨d0, _, _, _, _⟩, _⟩ := H6.out.atV
  have HbF := Lib.hid HbF0
  have HLo := Lib.hid (fun W (hb : Below w6.heap.size w6 W) => (H6.out.later hb).loose (by show X.B + xs.length ≤ 1000000; rw [Hx.out]; omega))
  clear hw6 a0 a1 a2 b0 b1 b2 f0 f1 f2 hb5 c0
  go_region_held3 (fun w' : World => w'.cell? ⟨w.heap.size, 0, none⟩ = some (.pointer (some ⟨v, 0, none⟩)) ∧ w'.cell? ⟨v, 0, none⟩ = some (.pointer (some ⟨X.t, 0, none⟩))) (first | exact ⟨hb6, d0⟩ | exact s7 | exact s8 | exact s9) (first
    | (go_at_call 69; refine (HLo.out _ (by first | exact Below.refl _ _ | exact (Below.refl _ _).drew)).mono ?_; rintro e w7 ⟨sv, zs, rfl, hp7, hO7, h7⟩; have s7 : w7.cell? ⟨w.heap.size, 0, none⟩ = some (.pointer (some ⟨v, 0, none⟩)) ∧ w7.cell? ⟨v, 0, none⟩ = some (.pointer (some ⟨X.t, 0, none⟩)) := ⟨by rw [h7.own.cellB HbS6.out]; rfl, h7.atV.1.1⟩; obtain ⟨q1, q2⟩ := id s7; have H7 := Lib.hid (And.intro hp7 (And.intro hO7 h7)); clear hp7 hO7 h7)
    | (go_at_call 68; refine (del_held H7.out.2.1 H7.out.2.2 (by have h1 := H7.out.1.length_eq; have h2 := H7.out.2.2.inv.len; have h3 := looseE_len (DoE X.E xs).2.nodes; have h4 := Hx.out; change (DoE X.E xs).2.nodes.length ≤ (X.B + xs.length) + 1 at h2; omega) w.heap.size HbS6.out).mono ?_; rintro e w8 ⟨a8, c8, rfl, h8⟩; have s8 : w8.cell? ⟨w.heap.size, 0, none⟩ = some (.pointer (some ⟨v, 0, none⟩)) ∧ w8.cell? ⟨v, 0, none⟩ = some (.pointer (some ⟨X.t, 0, none⟩)) := ⟨by rw [h8.own.cellB HbS6.out]; rfl, h8.atV.1.1⟩; obtain ⟨r1, r2⟩ := id s8; have H8 := Lib.hid h8; clear h8)
    | (go_at_call 67; refine (H8.out.reapSome (List.mem_cons_self ..) (by have h1 := H7.out.1.length_eq; have h2 := H7.out.2.2.inv.len; have h3 := looseE_len (DoE X.E xs).2.nodes; have h4 := Hx.out; have h5 := List.length_filter_le (fun i => !decide (0 < heldN X.held i)) zs; change (DoE X.E xs).2.nodes.length ≤ (X.B + xs.length) + 1 at h2; omega)).mono ?_; rintro e w9 ⟨rfl, h9⟩; have H9 := Lib.hid h9; have s9 := to_cells9 h9 HbS6.out HbF.out; clear h9))
  all_goals
    have HP := Lib.hid (show VolTo w0 S L v X T w.heap.size (doneS X ops xs D5) w9 from by
      have k := H9.out
      rw [sweep_eq HI.out.keys H7.out.1 X.held] at k
      exact VolTo.comp (fun x hx => List.mem_cons_of_mem _ (HL5.out x hx)) HS6.out HF6.out rfl rfl Hlt.out (Nat.le_of_lt (H8.out.own.atLt HbS6.out).2) k)
    clear H9 H8 H7 H6 HLo HbF HL5 HbS6 HS6 HF6 HI
    go_wp2_with fail
    go_ret
    exact ⟨rfl, _, HP.out⟩
end
end Go.Proofs.YtfffkgbnjakhnaaGreatDoor
end

/- Do of the volume beside a manager. -/
section
namespace Go.Proofs.YtfffkgbnjakhnaaGreatDoor
open Go.RowKit
open Go.ChangeMaps (setBlock)
set_option linter.unusedVariables false
set_option linter.unusedSimpArgs false
set_option maxRecDepth 100000

/-- Operations without bytes: kind, path, second path. -/
abbrev opsT (ts : List (Int × Nm × Nm)) : List OpD := ts.map fun t => ⟨t.1, toB t.2.1, toB t.2.2, none, 0, 0⟩
abbrev xsT (ts : List (Int × Nm × Nm)) : List OpE := ts.map fun t => ⟨t.1, t.2.1, t.2.2, []⟩
def lenT (ts : List (Int × Nm × Nm)) : Nat := 1 + (ts.map fun t => 16 + t.2.1.length + t.2.2.length).sum
theorem recO_len (ts : List (Int × Nm × Nm)) : (recO (pks (opsT ts) (xsT ts))).length = lenT ts := by
  unfold recO lenT
  rw [List.length_cons]
  have h : (packsD (pks (opsT ts) (xsT ts))).length = (ts.map fun t => 16 + t.2.1.length + t.2.2.length).sum := by
    induction ts with
    | nil => rfl
    | cons t r ih =>
      have e : pks (opsT (t :: r)) (xsT (t :: r)) = ((⟨t.1, toB t.2.1, toB t.2.2, none, 0, 0⟩ : OpD), ([] : List Int)) :: pks (opsT r) (xsT r) := rfl
      have e2 : ∀ (o : OpD) (d : List Int) (l : List (OpD × List Int)), packsD ((o, d) :: l) = packD o d ++ packsD l := fun o d l => rfl
      rw [e, e2, List.length_append, ih, List.map_cons, List.sum_cons]
      unfold packD
      simp only [List.length_append, sizedL_length, sb_length, toB_size, List.length_nil]
      have : (le4 t.1).length = 4 := rfl
      omega
  rw [h]; omega
/-- What operations that go well make of all. -/
def doV (V : MV) (ts : List (Int × Nm × Nm)) : MV := { V with E := sweepE (DoE V.E (xsT ts)).2 V.held, bud := (V.bud.1 + ts.length, V.bud.2.1 + roomM (lenT ts), V.bud.2.2.1, V.bud.2.2.2 + 100) }
theorem Gd.do_ {N : Nat} {V : MV} (h : Gd N V) (ts : List (Int × Nm × Nm)) : Gd N (doV V ts) := ⟨⟨h.held.1, h.held.2⟩, h.keys, h.last, h.each, h.evs, h.few, h.lens, h.nodup, h.some_, h.tri⟩
/-- What an operation may be. -/
structure TsOk (ts : List (Int × Nm × Nm)) : Prop where
  pos : 0 < ts.length
  kind : ∀ t ∈ ts, 0 ≤ t.1 ∧ t.1 < 4294967296
  size : ∀ t ∈ ts, t.2.1.length ≤ 1000 ∧ t.2.2.length ≤ 1000
  two : ∀ t ∈ ts, t.1 = 4 ∨ t.1 = 5 ∨ t.2.2 = []
section
variable {w0 w w1 w' : World} {K : Blocks} {L0 : List Rw} {v mb tb gb N : Nat} {us : List GU} {ord : OrdX} {V : MV} {X : VX} {Y : Tab}
/-- A call of the volume leaves the table as it is. -/
theorem VT.volE {α : Type} {X' : α → VX} (h : VT w0 K L0 v X Y w) {f : FuncId} {args : Array Value} {P : Ending → Prop} (hc : ∀ S R L T, VolIn w0 S R L v X T w → (∀ x ∈ L0, x ∈ L) → Calls Tryz.prog f args w fun e w' => P e ∧ ∃ a, VolTo w0 S L v X T w.heap.size (X' a) w') : Calls Tryz.prog f args w fun e w' => ∃ a, P e ∧ VT w0 K L0 v (X' a) Y w' := by
  obtain ⟨S, R, L, T, h1, h2, h3, h4, h5⟩ := h
  refine (hc S R L T h1 h4).mono fun e w' hd => ?_
  obtain ⟨hP, a, S', R', L', T', k1, k2, k3, k4, k5, k6⟩ := hd
  refine ⟨a, hP, S', R', L', T', k1, h2.mono (fun b x hb hx => k3 b x hx (h3 b hb)) k2, fun b hb => VolTo.off (h3 b hb) (h2.lt h1.ownL b hb) k4 k5 k6, fun x hx => k2 x (h4 x hx), fun b x hb => ?_⟩
  obtain ⟨q1, q2, q3⟩ := h5 b x hb
  exact ⟨k3 b x q1 q2, VolTo.off q2 (h1.own.atLt q1).2 k4 k5 k6, q3⟩
theorem opsT_in {S : Blocks} {L : List Rw} {ts : List (Int × Nm × Nm)} (hs : ∀ t ∈ ts, t.2.1.length ≤ 1000 ∧ t.2.2.length ≤ 1000) (i : Nat) (h : i < (opsT ts).length) : OpIn w0 S L (opsT ts)[i] ((xsT ts)[i]'(by simpa using h)) := by
  have hi : i < ts.length := by simpa using h
  have hz := hs _ (List.getElem_mem hi)
  have e1 : (opsT ts)[i] = ⟨ts[i].1, toB ts[i].2.1, toB ts[i].2.2, none, 0, 0⟩ := by simp
  have e2 : (xsT ts)[i]'(by simpa using h) = ⟨ts[i].1, (toB ts[i].2.1).data.toList, (toB ts[i].2.2).data.toList, []⟩ := by simp
  rw [e1, e2]
  exact op_noneV _ _ _ (by rw [toB_size]; exact hz.1) (by rw [toB_size]; exact hz.2)
set_option maxHeartbeats 2000000 in
theorem mdo_at (h : MgAt w0 v mb tb gb us ord N V w) (hm : Mx w0) {a : Option Addr} {cp : Nat} {ts : List (Int × Nm × Nm)} (k : Own w w1 [rowO (.slice a ts.length cp) (opsT ts)]) (ht : TsOk ts) (cap : Nat) (hE : (DoE V.E (xsT ts)).1 = 0) (hB : V.bud.1 + ts.length ≤ 100000) (hl : lenT ts ≤ 4096) (hf : V.bud.2.1 + roomM (lenT ts) ≤ V.bud.2.2.1) (hst : V.bud.2.2.2 ≤ 1000000000) :
    Calls Tryz.prog 26 #[.pointer (some ⟨v, 0, none⟩), .slice a ts.length cap] w1 fun e w' => e = .returned (.int .i64 0) ∧ MgAt w0 v mb tb gb us ord N (doV V ts) w' := by
  obtain ⟨K, L0, X, Y, M, h, rfl, rfl, rfl, rfl, hg, hG⟩ := h
  have h1 := h.join k
  have hlen : (opsT ts).length = ts.length := by simp
  refine (h1.call (α := Dk) (P := fun _ e => e = .returned (.int .i64 0)) (X' := fun D' => doneS X (opsT ts) (xsT ts) D') (Y' := fun _ => Y) (fun _ => rfl) fun K' hV => ?_).mono fun e w' hh => ?_
  · refine VT.volE (X' := fun D' => doneS X (opsT ts) (xsT ts) D') (P := fun e => e = .returned (.int .i64 0)) hV fun S R L T hI hL => ?_
    have hr : rowO (.slice a (opsT ts).length cp) (opsT ts) ∈ L := by
      rw [hlen]
      exact hL _ (List.mem_append_left _ (List.mem_cons_self ..))
    have := vdo_all hI hm (ops := opsT ts) (xs := xsT ts) (Ops.rowD hr (by simp) (opsT_in ht.size)) cap (fun o ho => by
      obtain ⟨t, h1, rfl⟩ := List.mem_map.1 ho
      exact ht.kind t h1) (fun o ho => by
      obtain ⟨t, h1, rfl⟩ := List.mem_map.1 ho
      have := ht.size t h1
      exact ⟨by show (toB t.2.1).size ≤ _; rw [toB_size]; omega, by show (toB t.2.2).size ≤ _; rw [toB_size]; omega⟩) (fun x hx => by
      obtain ⟨t, h1, rfl⟩ := List.mem_map.1 hx
      exact Nat.zero_le _) (fun o ho => by
      obtain ⟨t, h1, rfl⟩ := List.mem_map.1 ho
      rcases ht.two t h1 with h2 | h2 | h2
      · exact .inl h2
      · exact .inr (.inl h2)
      · refine .inr (.inr ?_)
        show toB t.2.2 = _
        rw [h2]) (by rw [hlen]; exact ht.pos) (by rw [hlen]; exact hB) hE (by rw [recO_len]; exact hl) (by rw [recO_len]; exact hf) hst
    rw [hlen] at this
    exact this
  · obtain ⟨D', h2, h3⟩ := hh
    refine ⟨h2, _, _, _, _, _, h3, ?_, rfl, rfl, rfl, hg.mono (fun m hm => List.mem_append_right _ hm) (fun r hr => List.mem_append_right _ hr), hG.do_ ts⟩
    show (⟨sweepE (DoE X.E (xsT ts)).2 X.held, X.held, Y.last, _, _, _, (X.B + (xsT ts).length, X.used + roomM (recO (pks (opsT ts) (xsT ts))).length, X.h, X.st + 100)⟩ : MV) = _
    rw [recO_len, List.length_map]
    rfl
end
end Go.Proofs.YtfffkgbnjakhnaaGreatDoor
end
