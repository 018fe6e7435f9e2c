/- Texts one behind the other, each in a section of its own: what calls make of memory, step by step. -/
import Derived.Test.YtkhnkidggcjfeaaGreatDoorPackNeedHits15
import Derived.Deep.RegionHeld3
set_option linter.unusedVariables false
set_option linter.unusedSimpArgs false
set_option maxRecDepth 100000
section
namespace Go.Proofs.YtkhnkidggcjfeaaGreatDoor
open Go.RowKit
open Go.ChangeMaps (setBlock)
section
variable {w0 w w' : World} {K : Blocks} {L0 : List Rw} {v : Nat} {X : VX} {Y : Tab} {M : MS}
theorem MgIn.drew1 (h : MgIn w0 K L0 v X Y M w) : MgIn w0 K L0 v X Y M w.drew := h.later (Below.refl _ _).drew
theorem RunD.Ok.shape (h : MgIn w0 K L0 v X Y M w) {r : RunD} (hr : r.Ok L0) : ∃ a c, r.hv = .slice a r.files.length c := by
  rcases hr with ⟨h1, h2⟩ | hr
  · exact ⟨none, 0, by rw [h1, h2]; rfl⟩
  · obtain ⟨a, c, e, _⟩ := h.sts hr
    exact ⟨a, c, e⟩
theorem MgIn.shape (h : MgIn w0 K L0 v X Y M w) (n : Nm) : ∃ a c, (M.of n).hv = .slice a (M.of n).files.length c := (h.ok n).shape h
theorem RunD.Ok.sts (h : MgIn w0 K L0 v X Y M w) {r : RunD} (hr : r.Ok L0) : Sts w r.hv r.files := by
  rcases hr with ⟨h1, h2⟩ | hr
  · rw [h1, h2]; exact sts_nil w
  · exact h.sts hr
theorem field_run (st pid tr : Int) (a : Option Addr) (m c : Nat) (w : World) : (Instr.field 75 (.agg #[.int .i64 st, .int .i64 pid, .slice a m c, .int .i64 tr]) 0).run Tryz.prog w = .ok (.int .i64 st) w ∧ (Instr.field 75 (.agg #[.int .i64 st, .int .i64 pid, .slice a m c, .int .i64 tr]) 1).run Tryz.prog w = .ok (.int .i64 pid) w ∧ (Instr.field 75 (.agg #[.int .i64 st, .int .i64 pid, .slice a m c, .int .i64 tr]) 2).run Tryz.prog w = .ok (.slice a m c) w :=
  ⟨by kernel_rfl, by kernel_rfl, by kernel_rfl⟩
set_option maxHeartbeats 1000000 in
theorem state_in (h : MgIn w0 K L0 v X Y M w) (n : Nm) : Calls Tryz.prog 22 #[.pointer (some ⟨M.m, 0, none⟩), .string (toB n)] w fun e w' => e = .returned (.int .i64 (M.of n).state) ∧ w = w' := by
  obtain ⟨⟨c0, c1, c2, c3⟩, hf⟩ := h.cells
  obtain ⟨a, c, hs⟩ := h.shape n
  have hl := h.lookup n
  unfold RunD.val at hl
  rw [hs] at hl
  clear h hs c0 c1 c3 hf
  generalize toB n = nb at *
  generalize M.of n = r at *
  obtain ⟨st, pid, hv, tr, fs⟩ := r
  dsimp only at hl ⊢
  have hfr := field_run st pid tr a fs.length c w
  obtain ⟨f0, f1, f2⟩ := hfr
  go_enter Tryz.func22, Tryz.ntmps22
  go_wp2_with fail
  go_ret
  exact ⟨rfl, rfl⟩
set_option maxHeartbeats 1000000 in
theorem pid_in (h : MgIn w0 K L0 v X Y M w) (n : Nm) : Calls Tryz.prog 40 #[.pointer (some ⟨M.m, 0, none⟩), .string (toB n)] w fun e w' => e = .returned (.int .i64 (M.of n).pid) ∧ w = w' := by
  obtain ⟨⟨c0, c1, c2, c3⟩, hf⟩ := h.cells
  obtain ⟨a, c, hs⟩ := h.shape n
  have hl := h.lookup n
  unfold RunD.val at hl
  rw [hs] at hl
  clear h hs c0 c1 c3 hf
  generalize toB n = nb at *
  generalize M.of n = r at *
  obtain ⟨st, pid, hv, tr, fs⟩ := r
  dsimp only at hl ⊢
  have hfr := field_run st pid tr a fs.length c w
  obtain ⟨f0, f1, f2⟩ := hfr
  go_enter Tryz.func40, Tryz.ntmps40
  go_wp2_with fail
  go_ret
  exact ⟨rfl, rfl⟩
set_option maxHeartbeats 1000000 in
theorem has_in (h : MgIn w0 K L0 v X Y M w) (n : Nm) (hlen : (M.of n).files.length ≤ 1000000) : Calls Tryz.prog 41 #[.pointer (some ⟨M.m, 0, none⟩), .string (toB n)] w fun e w' => ∃ v', e = .returned v' ∧ Own w w' [rowSs v' (M.of n).files] := by
  obtain ⟨⟨c0, c1, c2, c3⟩, hf⟩ := h.cells
  obtain ⟨a, c, hs⟩ := h.shape n
  have hl := h.lookup n
  have hst := (h.ok n).sts h
  rw [hs] at hst
  have hcl := cloneS_sts _ _ w hst hlen
  unfold RunD.val at hl
  rw [hs] at hl
  clear h hs hst hlen c0 c1 c3 hf
  generalize toB n = nb at *
  generalize M.of n = r at *
  obtain ⟨st, pid, hv, tr, fs⟩ := r
  dsimp only at hl hcl ⊢
  have hfr := field_run st pid tr a fs.length c w
  obtain ⟨f0, f1, f2⟩ := hfr
  go_enter Tryz.func41, Tryz.ntmps41
  go_wp2_with (go_at_call 71; refine hcl.mono ?_; rintro e w' ⟨v', rfl, hO⟩)
  go_ret
  exact ⟨_, rfl, hO⟩
theorem info_ev : ∃ i, Tryz.prog.info? 129 = some i ∧ i.zero = some (.agg #[.int .i64 0, .string ⟨#[]⟩]) ∧ i.size = 2 ∧ i.bytes = 24 := by
  have h : (Tryz.prog.info? 129).map (fun i => (i.zero, i.size, i.bytes)) = some (some (.agg #[.int .i64 0, .string ⟨#[]⟩]), 2, 24) := by kernel_rfl
  obtain ⟨i, h1, h2⟩ := Option.map_eq_some_iff.1 h
  simp only [Prod.mk.injEq] at h2
  exact ⟨i, h1, h2.1, h2.2.1, h2.2.2⟩
set_option maxHeartbeats 4000000 in
theorem turn_in (h : MgIn w0 K L0 v X Y M w) (n : Nm) {r : RunD} (hr : r.Ok L0) (kind : Int) (hlen : M.evs.length ≤ 1000000) :
    Calls Tryz.prog 26 #[.pointer (some ⟨M.m, 0, none⟩), .string (toB n), r.val, .int .i64 kind] w fun e w' => e = .returned (.tuple #[]) ∧ ∃ ev', MgIn w0 K L0 v X Y { M with runs := if r.state = 0 then del M.runs n else put M.runs n r, ev := ev', evs := M.evs ++ [(kind, n)] } w' := by
  obtain ⟨i0, hi, hz0, hz1, hz2⟩ := info_ev
  obtain ⟨a, c, hs⟩ := hr.shape h
  obtain ⟨st, pid, hv, tr, fs⟩ := r
  dsimp only at hs
  subst hs
  generalize hfl : fs.length = fl at *
  have hB1 : Below w.heap.size w (w.alloc (.cells #[.int .i64 st, .int .i64 pid, .slice a fl c, .int .i64 tr] 75)) := (Below.refl _ w).alloc (Nat.le_refl _) _
  have h1 := h.later hB1
  have h1d := h1.drew1
  have hc1 := (MapKept.heap_alloc w (.cells #[.int .i64 st, .int .i64 pid, .slice a fl c, .int .i64 tr] 75)).1
  have b0 := cell_at hc1 0
  have b1 := cell_at hc1 1
  have b2 := cell_at hc1 2
  have b3 := cell_at hc1 3
  -- what is appended, behind whichever turn of the map
  have HA := Lib.hid (fun (M2 : MS) (W : World) (hM : MgIn w0 K L0 v X Y M2 W) (hm : M2.m = M.m) (hev : M2.ev = M.ev) (hevs : M2.evs = M.evs) => (show W.cell? ⟨M.m, 3, none⟩ = some M.ev ∧ ∃ S N, Own ⟨w0, S⟩ (W.alloc (.cells #[.int .i64 kind, .string (toB n)] 129)) (⟨129, 2, M.ev, M.evs.length, evC M.evs⟩ :: N) ∧ ∀ w' ev', Own ⟨w0, S⟩ w' (⟨129, 2, ev', M.evs.length + 1, evC M.evs ++ [.int .i64 kind, .string (toB n)]⟩ :: N) → (w'.cell? ⟨M.m, 3, none⟩ = some M.ev ∧ w'.frozen? ⟨M.m, 3, none⟩ = false) ∧ MgIn w0 K L0 v X Y { M2 with ev := ev', evs := M.evs ++ [(kind, n)] } (w'.setCell ⟨M.m, 3, none⟩ ev') from by
    obtain ⟨m2, g2, rb2, ev2, evs2, rn2⟩ := M2
    dsimp only at hm hev hevs
    subst hm hev hevs
    obtain ⟨S, N, hO, back⟩ := hM.grow
    unfold rowEv at hO back
    refine ⟨hM.cells.1.2.2.2, S, N, hO.alloc _, fun w' ev' hO' => ?_⟩
    have h9 := back w' ev' (M.evs ++ [(kind, n)]) (by rw [List.length_append, evC_snoc]; exact hO')
    exact ⟨⟨h9.1.1, h9.1.2⟩, h9.2⟩))
  obtain ⟨o1, e1, k1⟩ := h1.delete n
  obtain ⟨o2, e2, k2⟩ := h1d.update n hr
  obtain ⟨⟨c0, c1, c2, c3⟩, hf⟩ := h1.cells
  obtain ⟨ea, ec2, hev⟩ := h.evForm
  have Hlen := Lib.hid hlen
  unfold RunD.val at e2 ⊢
  rw [hev] at c3
  dsimp only at e2 ⊢
  by_cases hst : st = 0
  · subst hst
    rw [if_pos rfl]
    obtain ⟨W1, hW1⟩ : ∃ W1, W1 = setBlock (w.alloc (.cells #[.int .i64 0, .int .i64 pid, .slice a fl c, .int .i64 tr] 75)) M.rb o1 := ⟨_, rfl⟩
    rw [← hW1] at e1 k1
    obtain ⟨a3, S, N, hO, hback⟩ := HA.out _ _ k1 rfl rfl rfl
    clear hW1
    generalize toB n = nb at *
    rw [hev] at a3 hO
    have Hsrc := Lib.hid (lit_src W1 [.int .i64 kind, .string nb] 129 (by intro u hu; simp only [List.mem_cons, List.not_mem_nil, or_false] at hu; rcases hu with rfl | rfl <;> rfl) W1.heap.size rfl)
    have Hb1 := Lib.hid (show M.evs.length + 1 ≤ maxLen from by have := Hlen.out; unfold maxLen; omega)
    have Hb2 := Lib.hid (show (M.evs.length + 1) * 24 ≤ 140737488355328 from by have := Hlen.out; omega)
    have HO := Lib.hid hO
    have HBK := Lib.hid hback
    clear h h1 h1d hr hlen hO hback hc1 hB1 HA k1 k2 c0 c1 hf hev e2
    generalize hnl : M.evs.length = nl at *
    generalize hec : evC M.evs = ec at *
    go_enter Tryz.func26, Tryz.ntmps26
    go_wp2_with (at_builtin; refine wpList_append_src rfl (.tmp 26) (.tmp 30) 65 rfl (.slice ea nl ec2) nl ec (.slice (some ⟨W1.heap.size, 0, none⟩) 1 1) 1 [.int .i64 kind, .string nb] rfl rfl HO.out i0 (.agg #[.int .i64 0, .string ⟨#[]⟩]) 24 Tryz.underlying65 hi hz0 hz1 hz2 rfl (by decide) Hsrc.out rfl Hb1.out Hb2.out ?_)
    intro ev' w' hO'
    obtain ⟨ea3, ec3, hev3, _, _⟩ := Own.sized (h := hO')
    subst hev3
    obtain ⟨⟨d3, g3⟩, hM'⟩ := HBK.out w' _ hO'
    have HP := Lib.hid hM'
    clear hO' hM' a3 e1
    go_wp2_with fail
    go_end0
    exact ⟨rfl, _, HP.out⟩
  · rw [if_neg hst]
    obtain ⟨W1, hW1⟩ : ∃ W1, W1 = setBlock (w.alloc (.cells #[.int .i64 st, .int .i64 pid, .slice a fl c, .int .i64 tr] 75)).drew M.rb o2 := ⟨_, rfl⟩
    rw [← hW1] at e2 k2
    obtain ⟨a3, S, N, hO, hback⟩ := HA.out _ _ k2 rfl rfl rfl
    clear hW1
    have hst2 : (st == 0) = false := by simpa using hst
    generalize toB n = nb at *
    rw [hev] at a3 hO
    have Hsrc := Lib.hid (lit_src W1 [.int .i64 kind, .string nb] 129 (by intro u hu; simp only [List.mem_cons, List.not_mem_nil, or_false] at hu; rcases hu with rfl | rfl <;> rfl) W1.heap.size rfl)
    have Hb1 := Lib.hid (show M.evs.length + 1 ≤ maxLen from by have := Hlen.out; unfold maxLen; omega)
    have Hb2 := Lib.hid (show (M.evs.length + 1) * 24 ≤ 140737488355328 from by have := Hlen.out; omega)
    have HO := Lib.hid hO
    have HBK := Lib.hid hback
    clear h h1 h1d hr hlen hO hback hc1 hB1 HA k1 k2 c0 c1 hf hev e1 hst
    generalize hnl : M.evs.length = nl at *
    generalize hec : evC M.evs = ec at *
    go_enter Tryz.func26, Tryz.ntmps26
    go_wp2_with fail
    go_region
    go_wp2_with (at_builtin; refine wpList_append_src rfl (.tmp 26) (.tmp 30) 65 rfl (.slice ea nl ec2) nl ec (.slice (some ⟨W1.heap.size, 0, none⟩) 1 1) 1 [.int .i64 kind, .string nb] rfl rfl HO.out i0 (.agg #[.int .i64 0, .string ⟨#[]⟩]) 24 Tryz.underlying65 hi hz0 hz1 hz2 rfl (by decide) Hsrc.out rfl Hb1.out Hb2.out ?_)
    intro ev' w' hO'
    obtain ⟨ea3, ec3, hev3, _, _⟩ := Own.sized (h := hO')
    subst hev3
    obtain ⟨⟨d3, g3⟩, hM'⟩ := HBK.out w' _ hO'
    have HP := Lib.hid hM'
    clear hO' hM' a3 e2
    go_wp2_with fail
    go_end0
    exact ⟨rfl, _, HP.out⟩
end
end Go.Proofs.YtkhnkidggcjfeaaGreatDoor
end
section
namespace Go.Proofs.YtkhnkidggcjfeaaGreatDoor
open Go.RowKit
open Go.ChangeMaps (setBlock)
section
variable {w0 w w' : World} {K : Blocks} {L0 : List Rw} {v : Nat} {X : VX} {Y : Tab} {M : MS} {N : Nat}
set_option maxHeartbeats 1000000 in
theorem idle_in (h : MgIn w0 K L0 v X Y M w) {b : Nat} (hb : w.cell? ⟨b, 0, none⟩ = some (.pointer (some ⟨M.m, 0, none⟩))) (n : Nm) :
    Calls Tryz.prog 53 #[.string (toB n), .pointer (some ⟨b, 0, none⟩)] w fun e w' => e = .returned (.bool ((M.of n).state != 2)) ∧ Below w.heap.size w w' := by
  have hs := state_in h n
  clear h
  generalize toB n = nb at *
  go_enter Tryz.func53, Tryz.ntmps53
  go_wp2_with (go_at_call 22; refine hs.mono ?_; rintro e w' ⟨rfl, rfl⟩)
  go_ret
  exact ⟨rfl, Below.refl _ _⟩
set_option maxHeartbeats 1000000 in
theorem allOn_in (h : MgIn w0 K L0 v X Y M w) {lv : Value} {ls : List Nm} (hl : Sts w lv ls) :
    Calls Tryz.prog 23 #[.pointer (some ⟨M.m, 0, none⟩), lv] w fun e w' => e = .returned (.bool (onV (vw X Y M) ls)) ∧ Below w.heap.size w w' := by
  have hO := (Own.start w).made_at 25 1 #[.pointer (some ⟨M.m, 0, none⟩)] 1 w.heap.size rfl rfl (by unfold maxLen; decide)
  have hB := hO.below
  have h1 := h.later hB
  have c0 : (w.alloc (.cells #[.pointer (some ⟨M.m, 0, none⟩)] 25)).cell? ⟨w.heap.size, 0, none⟩ = some (.pointer (some ⟨M.m, 0, none⟩)) := hO.cell 0 (by decide)
  have hc := containsF_lb 53 #[.pointer (some ⟨w.heap.size, 0, none⟩)] (fun x => (M.of x).state != 2) (enters_of Tryz.func53 (by kernel_rfl) rfl) lv ls _ (hl.later hB) (fun W x _ hb => idle_in (h1.later hb) ((hb.cell (p := ⟨w.heap.size, 0, none⟩) (World.block_lt_of_cell? _ ⟨w.heap.size, 0, none⟩ c0)).trans c0) x)
  have e1 : onV (vw X Y M) ls = !(ls.any fun x => (M.of x).state != 2) := by
    unfold onV
    rw [List.not_any_eq_all_not]
    refine List.all_congr rfl fun x => ?_
    rw [of_vw]
    show ((M.of x).state == 2) = !(!((M.of x).state == 2))
    rw [Bool.not_not]
  rw [e1]
  have HB := Lib.hid hB
  obtain ⟨a, m, c, rfl⟩ := hl.shape
  clear h h1 hO hB c0 hl e1
  generalize (ls.any fun x => (M.of x).state != 2) = b at *
  go_enter Tryz.func23, Tryz.ntmps23
  go_wp2_with (go_at_call 54; refine hc.mono ?_; rintro e w' ⟨rfl, hb⟩)
  go_ret
  exact ⟨rfl, HB.out.trans (hb.mono HB.out.size)⟩
theorem vw_turn (X : VX) (Y : Tab) (M : MS) (n : Nm) (r : RunD) (kind : Int) (ev : Value) : vw X Y { M with runs := if r.state = 0 then del M.runs n else put M.runs n r, ev := ev, evs := M.evs ++ [(kind, n)] } = turnV (vw X Y M) n r.view kind := by
  unfold vw turnV
  have e : (if r.state = 0 then del M.runs n else put M.runs n r).map (fun p => (p.1, p.2.view)) = if r.view.state = 0 then del (M.runs.map fun p => (p.1, p.2.view)) n else put (M.runs.map fun p => (p.1, p.2.view)) n r.view := by
    show (if r.state = 0 then del M.runs n else put M.runs n r).map (fun p => (p.1, p.2.view)) = if r.state = 0 then _ else _
    split
    · exact delV_map RunD.view M.runs n
    · exact putV_map RunD.view M.runs n r
  dsimp only
  rw [e]
def SpawnM (w0 : World) (K : Blocks) (L0 : List Rw) (v : Nat) (X : VX) (Y : Tab) (M : MS) (n : Nm) (fs : List Nm) (e : Ending) (w' : World) : Prop :=
  e = .returned (.tuple #[.int .i64 (if spawnC (vw X Y M) fs = 0 then Y.last + 1 else 0), .int .i64 (spawnC (vw X Y M) fs)]) ∧ ∃ X' Y', Y'.tb = Y.tb ∧ vw X' Y' M = spawnV (vw X Y M) (toB n) fs ∧ MgIn w0 K L0 v X' Y' M w'
theorem spawn_in (h : MgIn w0 K L0 v X Y M w) (hm : Mx w0) (g : Gd N (vw X Y M)) (hN : N ≤ 10000) (n : Nm) {hv : Value} {fs : List Nm} (hr : (⟨0, 0, hv, 0, fs⟩ : RunD).Ok L0) (hsz : ∀ f ∈ fs, f.length ≤ 1000000) :
    Calls Tryz.prog 55 #[.pointer (some ⟨Y.tb, 0, none⟩), .string (toB n), hv] w (SpawnM w0 K L0 v X Y M n fs) := by
  obtain ⟨a, c, hs⟩ := hr.shape h
  dsimp only at hs
  have hlen : Y.runs.length = (vw X Y M).runs.length := by show _ = (Y.runs.map _).length; rw [List.length_map]
  have fin : ∀ (X1 : VX) (Y1 : Tab) (code pid : Int), Y1.tb = Y.tb → (if spawnC (vw X Y M) fs = 0 then Y.last + 1 else 0) = pid → spawnC (vw X Y M) fs = code → vw X1 Y1 M = spawnV (vw X Y M) (toB n) fs → ((∀ K' : Blocks, VT w0 K' L0 v X Y w → Calls Tryz.prog 55 #[.pointer (some ⟨Y.tb, 0, none⟩), .string (toB n), hv] w fun e w' => e = .returned (.tuple #[.int .i64 pid, .int .i64 code]) ∧ VT w0 K' L0 v X1 Y1 w') → Calls Tryz.prog 55 #[.pointer (some ⟨Y.tb, 0, none⟩), .string (toB n), hv] w (SpawnM w0 K L0 v X Y M n fs)) := by
    intro X1 Y1 code pid ht hp hcd hvw hc
    refine (h.call (α := Unit) (P := fun _ e => e = .returned (.tuple #[.int .i64 pid, .int .i64 code])) (X' := fun _ => X1) (Y' := fun _ => Y1) (fun _ => ht) fun K' hV => (hc K' hV).mono fun e w' hh => ⟨(), hh⟩).mono fun e w' hh => ?_
    obtain ⟨_, h1, h2⟩ := hh
    exact ⟨by rw [hp, hcd]; exact h1, X1, Y1, ht, hvw, h2⟩
  by_cases h8 : 8 < fs.length
  · have e1 : spawnC (vw X Y M) fs = 22 := by unfold spawnC; rw [if_pos h8]
    have e2 : spawnV (vw X Y M) (toB n) fs = vw X Y M := by unfold spawnV; rw [if_pos h8]
    refine fin X Y 22 0 rfl (by rw [e1]; rfl) e1 e2.symm fun K' hV => ?_
    rw [hs]
    exact spawn_many hV (toB n) a _ c h8
  by_cases h32 : 32 ≤ (vw X Y M).runs.length
  · have e1 : spawnC (vw X Y M) fs = 7 := by unfold spawnC; rw [if_neg h8, if_pos h32]
    have e2 : spawnV (vw X Y M) (toB n) fs = vw X Y M := by unfold spawnV; rw [if_neg h8, if_pos h32]
    refine fin X Y 7 0 rfl (by rw [e1]; rfl) e1 e2.symm fun K' hV => ?_
    rw [hs]
    exact spawn_full hV (toB n) a _ c (by omega) (by omega)
  have hlk : LikeX X (vw X Y M).x := ⟨rfl, rfl⟩
  obtain ⟨q1, q2, q3⟩ := hlk.holds fs []
  have hmap : (fs.map toB).map (fun p => p.data.toList) = fs := by
    rw [List.map_map]
    exact List.map_id _
  have hpl : (fs.map toB).length = fs.length := List.length_map ..
  have hps : ∀ K' : Blocks, ∀ w' X', VT w0 K' L0 v X' Y w' → ∀ i (hi : i < (fs.map toB).length), ∃ g o, a = some ⟨g, o, none⟩ ∧ w'.cell? ⟨g, o + i, none⟩ = some (.string (fs.map toB)[i]) := fun K' w' X' k i hi => by
    rw [hpl] at hi
    rcases hr with ⟨_, h2⟩ | hr
    · dsimp only at h2
      rw [h2] at hi; exact absurd hi (Nat.not_lt_zero _)
    · obtain ⟨a', c', e1, _, _, h4⟩ := k.vtx.sts hr
      dsimp only at e1
      rw [hs] at e1
      injection e1 with e1 _ _
      subst e1
      obtain ⟨b, o, rfl, _, hc⟩ := h4 (show 0 < fs.length by omega)
      exact ⟨b, o, rfl, by rw [hc i hi, List.getElem_map]⟩
  have hszb : ∀ p ∈ fs.map toB, p.size ≤ maxLen := fun p hp => by
    obtain ⟨x, hx, rfl⟩ := List.mem_map.1 hp
    rw [toB_size]
    have := hsz x hx
    unfold maxLen; omega
  have hH : HeldOk (8 * N) X := g.held.like ⟨rfl, rfl⟩
  by_cases h0 : (holdFrom (X, []) fs).1 = 0
  · have e1 : spawnC (vw X Y M) fs = 0 := by unfold spawnC; rw [if_neg h8, if_neg h32, ← q1]; exact h0
    have e2 : spawnV (vw X Y M) (toB n) fs = { (vw X Y M) with E := (holdFrom (X, []) fs).2.2.E, held := (holdFrom (X, []) fs).2.2.held, last := Y.last + 1, runs := put (vw X Y M).runs (Y.last + 1) (toB n, (holdFrom (X, []) fs).2.1, false) } := by
      unfold spawnV
      rw [if_neg h8, if_neg h32, ← q1, if_pos h0, ← q3.1, ← q3.2, ← q2]
      rfl
    have hfr : look Y.runs (Y.last + 1) = none := by
      have := g.free
      rw [runs_vw] at this
      cases hq : look Y.runs (Y.last + 1) with
      | none => rfl
      | some p =>
        rw [show (vw X Y M).last = Y.last from rfl, hq] at this
        cases this
    have hlast : 0 ≤ Y.last ∧ Y.last ≤ (N : Int) := g.last
    refine (h.call (α := Nat × Value) (P := fun _ e => e = .returned (.tuple #[.int .i64 (Y.last + 1), .int .i64 0])) (X' := fun _ => (holdFrom (X, []) fs).2.2) (Y' := fun q => { Y with last := Y.last + 1, runs := put Y.runs (Y.last + 1) ⟨q.1, toB n, q.2, (holdFrom (X, []) fs).2.1, false⟩ }) (fun _ => rfl) fun K' hV => ?_).mono fun e w' hh => ?_
    · have := spawn_yes hV hm hH (toB n) a (fs.map toB) c (by rw [hpl]; omega) hszb (hps K') (by rw [hpl]; omega) (by omega) (ids := (holdFrom (X, []) fs).2.1) (X1 := (holdFrom (X, []) fs).2.2) (by rw [hmap, ← h0]) (by omega) hfr
      rw [hpl, ← hs] at this
      exact this.mono fun e w' hh => by
        obtain ⟨k1, b, fv, k2⟩ := hh
        exact ⟨(b, fv), k1, k2⟩
    · obtain ⟨q, k1, k2⟩ := hh
      refine ⟨by rw [e1, if_pos rfl]; exact k1, _, { Y with last := Y.last + 1, runs := put Y.runs (Y.last + 1) ⟨q.1, toB n, q.2, (holdFrom (X, []) fs).2.1, false⟩ }, rfl, ?_, k2⟩
      rw [e2]
      unfold vw
      dsimp only
      rw [putV_map vwP, budX_holds]
      rfl
  · have e1 : spawnC (vw X Y M) fs = (holdFrom (X, []) fs).1 := by unfold spawnC; rw [if_neg h8, if_neg h32, ← q1]
    have e2 : spawnV (vw X Y M) (toB n) fs = vw (holdFrom (X, []) fs).2.2 Y M := by
      unfold spawnV
      rw [if_neg h8, if_neg h32, ← q1, if_neg h0, ← q3.1, ← q3.2]
      show ({ (vw X Y M) with E := (holdFrom (X, []) fs).2.2.E, held := (holdFrom (X, []) fs).2.2.held } : MV) = _
      unfold vw
      rw [budX_holds]
    refine fin (holdFrom (X, []) fs).2.2 Y (holdFrom (X, []) fs).1 0 rfl (by rw [e1, if_neg h0]) e1 e2.symm fun K' hV => ?_
    have := spawn_no hV hm hH (toB n) a (fs.map toB) c (by rw [hpl]; omega) hszb (hps K') (by rw [hpl]; omega) (by omega) (e0 := (holdFrom (X, []) fs).1) (ids := (holdFrom (X, []) fs).2.1) (X1 := (holdFrom (X, []) fs).2.2) (by rw [hmap]) h0
    rw [hpl, ← hs] at this
    exact this
end
end Go.Proofs.YtkhnkidggcjfeaaGreatDoor
end
section
namespace Go.Proofs.YtkhnkidggcjfeaaGreatDoor
open Go.RowKit
open Go.ChangeMaps (setBlock)
def MgTo (w0 : World) (K : Blocks) (L0 : List Rw) (v : Nat) (Y : Tab) (M : MS) (V' : MV) (w' : World) : Prop :=
  ∃ K' L1 X' Y' M', MgIn w0 K' L1 v X' Y' M' w' ∧ vw X' Y' M' = V' ∧ M'.m = M.m ∧ Y'.tb = Y.tb ∧ M'.g = M.g ∧ (∀ m ∈ K, m ∈ K') ∧ (∀ r ∈ L0, r ∈ L1)
section
variable {w0 w w' : World} {K K1 : Blocks} {L0 L1 : List Rw} {v : Nat} {X : VX} {Y : Tab} {M : MS} {N : Nat}
theorem MgIn.to (h : MgIn w0 K L0 v X Y M w) : MgTo w0 K L0 v Y M (vw X Y M) w := ⟨K, L0, X, Y, M, h, rfl, rfl, rfl, rfl, fun _ h => h, fun _ h => h⟩
theorem MgTo.less {V : MV} (h : MgTo w0 K1 L1 v Y M V w) (hK : ∀ m ∈ K, m ∈ K1) (hL : ∀ r ∈ L0, r ∈ L1) : MgTo w0 K L0 v Y M V w := by
  obtain ⟨K', L2, X', Y', M', h1, h2, h3, h4, h5, h6, h7⟩ := h
  exact ⟨K', L2, X', Y', M', h1, h2, h3, h4, h5, fun m hm => h6 m (hK m hm), fun r hr => h7 r (hL r hr)⟩
theorem MgTo.at {V : MV} (h : MgTo w0 K L0 v Y M V w) {us : List GU} {ord : OrdX} (hg : GKx w0 K L0 M.g us ord) (hG : Gd N V) : MgAt w0 v M.m Y.tb M.g us ord N V w := by
  obtain ⟨K', L2, X', Y', M', h1, h2, h3, h4, h5, h6, h7⟩ := h
  exact ⟨K', L2, X', Y', M', h1, h2, h3, h4, h5, hg.mono h6 h7, hG⟩
theorem evs_le (g : Gd N (vw X Y M)) (hN : N ≤ 10000) : M.evs.length ≤ 1000000 := by
  have := g.evs
  have e : (vw X Y M).evs = M.evs := rfl
  rw [e] at this
  omega
set_option maxHeartbeats 4000000 in
theorem issue_in (h : MgIn w0 K L0 v X Y M w) (hm : Mx w0) (g : Gd N (vw X Y M)) (hN : N ≤ 10000) (n : Nm) {hv : Value} {fs : List Nm} (hr : (⟨0, 0, hv, 0, fs⟩ : RunD).Ok L0) (hsz : ∀ f ∈ fs, f.length ≤ 1000000) (tries : Int) :
    Calls Tryz.prog 24 #[.pointer (some ⟨M.m, 0, none⟩), .string (toB n), hv, .int .i64 tries] w fun e w' => e = .returned (.int .i64 (issueV (vw X Y M) n fs tries).1) ∧ MgTo w0 K L0 v Y M (issueV (vw X Y M) n fs tries).2 w' := by
  have hsp := spawn_in h hm g hN n hr hsz
  obtain ⟨a, c, hs⟩ := hr.shape h
  dsimp only at hs
  obtain ⟨⟨c0, c1, c2, c3⟩, hf⟩ := h.cells
  have HE := Lib.hid (evs_le g hN)
  by_cases hcd : spawnC (vw X Y M) fs = 0
  · have hi : issueV (vw X Y M) n fs tries = (0, turnV (spawnV (vw X Y M) (toB n) fs) n ⟨1, Y.last + 1, tries, fs⟩ 0) := by
      unfold issueV
      rw [if_pos hcd]; rfl
    rw [hi]
    have HR := Lib.hid hr
    have HT := Lib.hid (fun (X1 : VX) (Y1 : Tab) (W : World) (h1 : MgIn w0 K L0 v X1 Y1 M W) => turn_in h1 n (r := ⟨1, Y.last + 1, hv, tries, fs⟩) HR.out 0 HE.out)
    have HV := Lib.hid (fun (X1 : VX) (Y1 : Tab) (ev : Value) => vw_turn X1 Y1 M n ⟨1, Y.last + 1, hv, tries, fs⟩ 0 ev)
    unfold SpawnM at hsp
    rw [hcd, if_pos rfl] at hsp
    unfold RunD.val at HT
    dsimp only at HT HV
    rw [hs] at hsp HT HV ⊢
    clear h c1 c2 c3 hf hr hs hcd hi HR g
    generalize hfl : fs.length = fl at *
    generalize Y.last = last at *
    go_enter Tryz.func24, Tryz.ntmps24
    go_wp2_with fail
    refine hsp.mono ?_
    rintro e w1 ⟨rfl, X1, Y1, ht1, hv1, h1⟩
    have ht := HT.out X1 Y1 w1 h1
    have H1 := Lib.hid (And.intro ht1 hv1)
    clear hsp h1 ht1 hv1 HT c0
    go_wp2_with fail
    refine ht.mono ?_
    rintro e w2 ⟨rfl, ev, h2⟩
    have H2 := Lib.hid h2
    clear ht h2
    go_wp2_with fail
    go_ret
    refine ⟨rfl, K, L0, X1, Y1, _, H2.out, ?_, rfl, H1.out.1, rfl, fun _ h => h, fun _ h => h⟩
    rw [← H1.out.2]
    exact HV.out X1 Y1 ev
  · have hi : issueV (vw X Y M) n fs tries = (spawnC (vw X Y M) fs, turnV (spawnV (vw X Y M) (toB n) fs) n ⟨4, 0, 0, []⟩ 4) := by
      unfold issueV
      rw [if_neg hcd]
    rw [hi]
    have HT := Lib.hid (fun (X1 : VX) (Y1 : Tab) (W : World) (h1 : MgIn w0 K L0 v X1 Y1 M W) => (turn_in h1 n (r := ⟨4, 0, .slice none 0 0, 0, []⟩) (.inl ⟨rfl, rfl⟩) 4 HE.out))
    have HV := Lib.hid (fun (X1 : VX) (Y1 : Tab) (ev : Value) => vw_turn X1 Y1 M n ⟨4, 0, .slice none 0 0, 0, []⟩ 4 ev)
    unfold SpawnM at hsp
    rw [if_neg hcd] at hsp
    unfold RunD.val at HT
    dsimp only at HT HV
    rw [hs] at hsp ⊢
    have hne : (spawnC (vw X Y M) fs != 0) = true := by simp [hcd]
    clear h c1 c2 c3 hf hr hs hcd hi g
    generalize hfl : fs.length = fl at *
    generalize hsc : spawnC (vw X Y M) fs = code at *
    generalize Y.last = last at *
    go_enter Tryz.func24, Tryz.ntmps24
    go_wp2_with fail
    refine hsp.mono ?_
    rintro e w1 ⟨rfl, X1, Y1, ht1, hv1, h1⟩
    have ht := HT.out X1 Y1 w1 h1
    have H1 := Lib.hid (And.intro ht1 hv1)
    clear hsp h1 ht1 hv1 HT c0
    go_wp2_with fail
    refine ht.mono ?_
    rintro e w2 ⟨rfl, ev, h2⟩
    have H2 := Lib.hid h2
    clear ht h2
    go_wp2_with fail
    go_ret
    refine ⟨rfl, K, L0, X1, Y1, _, H2.out, ?_, rfl, H1.out.1, rfl, fun _ h => h, fun _ h => h⟩
    rw [← H1.out.2]
    exact HV.out X1 Y1 ev
end
end Go.Proofs.YtkhnkidggcjfeaaGreatDoor
end
section
namespace Go.Proofs.YtkhnkidggcjfeaaGreatDoor
open Go.RowKit
open Go.ChangeMaps (setBlock)
section
variable {w0 w w' : World} {v mb tb gb N : Nat} {us : List GU} {ord : OrdX} {V : MV}
def ShortF (us : List GU) : Prop := ∀ n, ∀ f ∈ (findU us n).fi, f.length ≤ 1000000
set_option maxHeartbeats 8000000 in
theorem start_at (h : MgAt w0 v mb tb gb us ord N V w) (hm : Mx w0) (hN : N ≤ 9000) (hf : ShortF us) (n : Nm) (hn : n.length ≤ n.length) :
    Calls Tryz.prog 8 #[.pointer (some ⟨mb, 0, none⟩), .string (toB n)] w fun e w' => e = .returned (.int .i64 (startV us V n).1) ∧ MgAt w0 v mb tb gb us ord (N + 2) (startV us V n).2 w' := by
  obtain ⟨K, L0, X, Y, M, h, rfl, rfl, rfl, rfl, hg, hG⟩ := h
  have hget := (hg.atM h).get2 n
  obtain ⟨⟨c0, c1, c2, c3⟩, _⟩ := h.cells
  have HG := Lib.hid hG
  have HM := Lib.hid hm
  have HF := Lib.hid (hf n)
  have HP := Lib.hid (fun (V' : MV) (W : World) (hV : (startV us (vw X Y M) n).2 = V') (hW : MgTo w0 K L0 v Y M V' W) => (show MgAt w0 v M.m Y.tb M.g us ord (N + 2) (startV us (vw X Y M) n).2 W from (by rw [hV]; exact hW.at hg (hV ▸ hG.start us n hn))))
  have HS := Lib.hid (show startV us (vw X Y M) n = (if n ∉ namesU us then (8, vw X Y M) else if (ofV (vw X Y M) n).state ≠ 0 ∧ (ofV (vw X Y M) n).state ≠ 4 then (20, vw X Y M) else if onV (vw X Y M) (findU us n).re = false then (16, vw X Y M) else issueV (vw X Y M) n (findU us n).fi 0) from rfl)
  have HO := Lib.hid (show (ofV (vw X Y M) n).state = (M.of n).state from by rw [of_vw]; rfl)
  have H := Lib.hid h
  clear h hg hG hm hf c0 c2 c3
  go_enter Tryz.func8, Tryz.ntmps8
  go_wp2_with fail
  refine hget.mono ?_
  rintro e w1 ⟨y, hy1, hy2, hU, rfl, hO⟩
  have h1 := H.out.join (S' := []) hO
  have hone := Lib.hid hU.one
  have hcs : (Tryz.prog.info? 63).map (·.size) = some y.cells.length := info_uv
  have h8 := Lib.hid (show (8 : Nat) = y.cells.length from rfl)
  have D4 := Lib.hid (show y.cells[4]? = some y.v4 from rfl)
  have D1 := Lib.hid (show y.cells[1]? = some y.v1 from rfl)
  have hin1 : (⟨0, 0, y.v1, 0, (findU us n).fi⟩ : RunD).Ok (rows6 y (findU us n) ++ L0) := .inr (List.mem_append_left _ (by simp [rows6]))
  have HI1 := Lib.hid hin1
  have HU := Lib.hid hU
  have H1 := Lib.hid h1
  have HL := Lib.hid (show ∀ r ∈ L0, r ∈ rows6 y (findU us n) ++ L0 from fun r hr => List.mem_append_right _ hr)
  have S4 := Lib.hid hU.s4
  clear hget hy1 hy2 hU hO h1 hin1 H HU
  generalize y.cells = cs at *
  generalize hbd : decide (n ∈ namesU us) = b at *
  have HBD := Lib.hid hbd
  clear hbd
  go_upto_region 2 with (refine wpList_store_new rfl 63 (.tmp 5) (.tmp 15) rfl (Own.start w1) cs w1.heap.size rfl rfl rfl h8.out hcs hone.out ?_)
  intro w2 hO2 _
  have c4 : w2.cell? ⟨w1.heap.size, 4, none⟩ = some y.v4 := by rw [hO2.cell 4 (by rw [← h8.out]; decide)]; exact D4.out
  have c5 : w2.cell? ⟨w1.heap.size, 1, none⟩ = some y.v1 := by rw [hO2.cell 1 (by rw [← h8.out]; decide)]; exact D1.out
  have h2 := H1.out.later hO2.below
  have s4 := S4.out.later hO2.below
  have hst := state_in h2 n
  have H2 := Lib.hid h2
  have HC5 := Lib.hid c5
  have HLT := Lib.hid (World.block_lt_of_cell? w2 ⟨w1.heap.size, 1, none⟩ c5)
  have HR := Lib.hid (fun (V' : MV) (W : World) (hb : Below w2.heap.size w2 W) => (show MgTo w0 K L0 v Y M (vw X Y M) W from ((h2.later hb).to).less (fun m hm => hm) HL.out))
  have hon := allOn_in h2 s4
  have HISS := Lib.hid (fun (W : World) (hb : Below w2.heap.size w2 W) => issue_in (h2.later hb) HM.out HG.out (by omega) n HI1.out HF.out 0)
  have hsh : ∃ a c, y.v1 = .slice a (findU us n).fi.length c := HI1.out.shape h2
  obtain ⟨a1, k1, hv1⟩ := hsh
  obtain ⟨a4, n4, k4, hv4⟩ := s4.shape
  clear hO2 h2 s4 D4 D1 S4 HI1 H1 hone h8 hcs c5
  generalize y.v4 = v4 at *
  generalize y.v1 = v1 at *
  subst hv1 hv4
  generalize hfl : (findU us n).fi.length = fl at *
  cases b with
  | false =>
    have hnn : n ∉ namesU us := by simpa using HBD.out
    have hs : startV us (vw X Y M) n = (8, vw X Y M) := by rw [HS.out, if_pos hnn]
    have HV := Lib.hid (HR.out (vw X Y M) w2 (Below.refl _ _))
    have HS2 := Lib.hid hs
    clear hnn hs c4 hon HISS
    generalize (M.of n).state = st at *
    go_wp2_with (go_at_call 22; refine hst.mono ?_; rintro e w9 ⟨rfl, rfl⟩)
    go_ret
    exact ⟨by rw [HS2.out]; rfl, HP.out _ _ (by rw [HS2.out]) HV.out⟩
  | true =>
    have HIN := Lib.hid (show ¬ n ∉ namesU us from by simpa using HBD.out)
    rw [HO.out] at HS
    generalize (M.of n).state = st at *
    generalize hob : onV (vw X Y M) (findU us n).re = bo at *
    have HOB := Lib.hid hob
    clear hob HO
    by_cases e0 : st = 0
    · subst e0
      have HS3 := Lib.hid (show startV us (vw X Y M) n = if bo = false then (16, vw X Y M) else issueV (vw X Y M) n (findU us n).fi 0 from by rw [HS.out, if_neg HIN.out, if_neg (by decide)])
      clear HS
      cases bo with
      | false =>
        have HS2 := Lib.hid (show startV us (vw X Y M) n = (16, vw X Y M) from by rw [HS3.out, if_pos rfl])
        clear HS3 HISS
        go_wp2_with (first
          | (go_at_call 23; refine hon.mono ?_; rintro e w3 ⟨rfl, hb3⟩; have HB3 := Lib.hid hb3; clear hb3)
          | (go_at_call 22; refine hst.mono ?_; rintro e w9 ⟨rfl, rfl⟩))
        go_ret
        exact ⟨by rw [HS2.out]; rfl, HP.out _ _ (by rw [HS2.out]) (HR.out (vw X Y M) _ HB3.out)⟩
      | true =>
        have HS2 := Lib.hid (show startV us (vw X Y M) n = issueV (vw X Y M) n (findU us n).fi 0 from by rw [HS3.out, if_neg (by decide)])
        clear HS3
        go_wp2_with (first
          | (go_at_call 24; have _g := HB3.out; clear _g; refine (HISS.out w3 HB3.out).mono ?_; rintro e w4 ⟨rfl, h4⟩; have H4 := Lib.hid h4; clear h4)
          | (go_at_call 23; refine hon.mono ?_; rintro e w3 ⟨rfl, hb3⟩; have c5 := (hb3.cell (p := ⟨w1.heap.size, 1, none⟩) HLT.out).trans HC5.out; have HB3 := Lib.hid hb3; clear hb3)
          | (go_at_call 22; refine hst.mono ?_; rintro e w9 ⟨rfl, rfl⟩))
        go_ret
        exact ⟨by rw [HS2.out]; rfl, HP.out _ _ (by rw [HS2.out]) (H4.out.less (fun m hm => hm) HL.out)⟩
    · by_cases e4 : st = 4
      · subst e4
        have HS3 := Lib.hid (show startV us (vw X Y M) n = if bo = false then (16, vw X Y M) else issueV (vw X Y M) n (findU us n).fi 0 from by rw [HS.out, if_neg HIN.out, if_neg (by decide)])
        clear HS
        cases bo with
        | false =>
          have HS2 := Lib.hid (show startV us (vw X Y M) n = (16, vw X Y M) from by rw [HS3.out, if_pos rfl])
          clear HS3 HISS
          go_wp2_with (first
            | (go_at_call 23; refine hon.mono ?_; rintro e w3 ⟨rfl, hb3⟩; have HB3 := Lib.hid hb3; clear hb3)
            | (go_at_call 22; refine hst.mono ?_; rintro e w9 ⟨rfl, rfl⟩))
          go_ret
          exact ⟨by rw [HS2.out]; rfl, HP.out _ _ (by rw [HS2.out]) (HR.out (vw X Y M) _ HB3.out)⟩
        | true =>
          have HS2 := Lib.hid (show startV us (vw X Y M) n = issueV (vw X Y M) n (findU us n).fi 0 from by rw [HS3.out, if_neg (by decide)])
          clear HS3
          go_wp2_with (first
            | (go_at_call 24; have _g := HB3.out; clear _g; refine (HISS.out w3 HB3.out).mono ?_; rintro e w4 ⟨rfl, h4⟩; have H4 := Lib.hid h4; clear h4)
            | (go_at_call 23; refine hon.mono ?_; rintro e w3 ⟨rfl, hb3⟩; have c5 := (hb3.cell (p := ⟨w1.heap.size, 1, none⟩) HLT.out).trans HC5.out; have HB3 := Lib.hid hb3; clear hb3)
            | (go_at_call 22; refine hst.mono ?_; rintro e w9 ⟨rfl, rfl⟩))
          go_ret
          exact ⟨by rw [HS2.out]; rfl, HP.out _ _ (by rw [HS2.out]) (H4.out.less (fun m hm => hm) HL.out)⟩
      · have g0 : (st != 0) = true := by simpa using e0
        have g4 : (st != 4) = true := by simpa using e4
        have HS2 := Lib.hid (show startV us (vw X Y M) n = (20, vw X Y M) from by rw [HS.out, if_neg HIN.out, if_pos ⟨e0, e4⟩])
        clear HS HISS hon e0 e4
        go_wp2_with (go_at_call 22; refine hst.mono ?_; rintro e w9 ⟨rfl, rfl⟩)
        go_ret
        exact ⟨by rw [HS2.out]; rfl, HP.out _ _ (by rw [HS2.out]) (HR.out (vw X Y M) _ (Below.refl _ _))⟩
end
end Go.Proofs.YtkhnkidggcjfeaaGreatDoor
end
section
namespace Go.Proofs.YtkhnkidggcjfeaaGreatDoor
open Go.RowKit
open Go.ChangeMaps (setBlock)
section
variable {w0 w w' : World} {K : Blocks} {L0 : List Rw} {v : Nat} {X : VX} {Y : Tab} {M : MS} {N : Nat}
theorem MgIn.newK (h : MgIn w0 K L0 v X Y M w) (o : Obj) : MgIn w0 ((w.heap.size, o) :: K) L0 v X Y M (w.alloc o) ∧ ∀ c y, (c, y) ∈ K → c ≠ w.heap.size := by
  refine ⟨h.join (N := []) ((Own.start w).newB o), fun c y hc => ?_⟩
  obtain ⟨o1, h1, _⟩ := h.x
  obtain ⟨L, hO, _⟩ := h1.ownK
  have := (hO.atLt (List.mem_cons_of_mem _ (List.mem_cons_of_mem _ hc))).2
  omega
theorem MgIn.cellK (h : MgIn w0 K L0 v X Y M w) {b : Nat} {x : Obj} (hb : (b, x) ∈ K) : w.heap[b]? = some x := by
  obtain ⟨o1, h1, _⟩ := h.x
  exact h1.cellK (List.mem_cons_of_mem _ (List.mem_cons_of_mem _ hb))
theorem exit_in (h : MgIn w0 K L0 v X Y M w) (g : Gd N (vw X Y M)) (hN : N ≤ 10000) (pid : Int) :
    Calls Tryz.prog 25 #[.pointer (some ⟨Y.tb, 0, none⟩), .int .i64 pid] w fun e w' => (∃ k, e = .returned (.int .i64 k)) ∧ ∃ X' Y', Y'.tb = Y.tb ∧ vw X' Y' M = exitV (vw X Y M) pid ∧ MgIn w0 K L0 v X' Y' M w' := by
  have hkeys : (Y.runs.map (·.1)).Nodup := by
    have := g.keys
    have e : (vw X Y M).runs.map (·.1) = Y.runs.map (·.1) := by show (Y.runs.map _).map _ = _; rw [List.map_map]; rfl
    rwa [e] at this
  have hv : exitV (vw X Y M) pid = match (look Y.runs pid).map vwP with
    | none => vw X Y M
    | some p => { (vw X Y M) with E := (letAll (vw X Y M).x p.2.1).E, held := (letAll (vw X Y M).x p.2.1).held, runs := del (vw X Y M).runs pid } := by
    unfold exitV
    rw [runs_vw]
    cases look Y.runs pid <;> rfl
  cases hl : look Y.runs pid with
  | none =>
    rw [hl] at hv
    refine (h.call (α := Unit) (P := fun _ e => e = .returned (.int .i64 8)) (X' := fun _ => X) (Y' := fun _ => Y) (fun _ => rfl) fun K' hV => (exit_no hV pid hl).mono fun e w' hh => ⟨(), hh⟩).mono fun e w' hh => ?_
    obtain ⟨_, h1, h2⟩ := hh
    exact ⟨⟨8, h1⟩, X, Y, rfl, hv.symm, h2⟩
  | some p =>
    rw [hl] at hv
    have hml : p.maps.length ≤ 8 := (g.each (pid, vwP p) (List.mem_map.2 ⟨_, look_mem hl, rfl⟩)).2
    refine (h.call (α := Unit) (P := fun _ e => e = .returned (.int .i64 0)) (X' := fun _ => letAll X p.maps) (Y' := fun _ => { Y with runs := del Y.runs pid }) (fun _ => rfl) fun K' hV => (exit_yes hV hkeys (N := 8 * N) (g.held.like ⟨rfl, rfl⟩) (by omega) pid hl (by omega)).mono fun e w' hh => ⟨(), hh⟩).mono fun e w' hh => ?_
    obtain ⟨_, h1, h2⟩ := hh
    refine ⟨⟨0, h1⟩, letAll X p.maps, { Y with runs := del Y.runs pid }, rfl, ?_, h2⟩
    rw [hv]
    have hq := LikeX.letAll (show LikeX X (vw X Y M).x from ⟨rfl, rfl⟩) p.maps
    unfold vw at hq ⊢
    dsimp only at hq ⊢
    rw [delV_map vwP, hq.1, hq.2, budX_letAll]
    rfl
end
section
variable {w0 w w' : World} {v mb tb gb N : Nat} {us : List GU} {ord : OrdX} {V : MV}
theorem turn_mg {K K1 : Blocks} {L0 L1 : List Rw} {X : VX} {Y Y1 : Tab} {M : MS} (h : MgIn w0 K1 L1 v X Y1 M w) (n : Nm) {r : RunD} (hr : r.Ok L1) (kind : Int) (hlen : M.evs.length ≤ 1000000) {V : MV} (hv : vw X Y1 M = V) (ht : Y1.tb = Y.tb) (hK : ∀ m ∈ K, m ∈ K1) (hL : ∀ r ∈ L0, r ∈ L1) :
    Calls Tryz.prog 26 #[.pointer (some ⟨M.m, 0, none⟩), .string (toB n), r.val, .int .i64 kind] w fun e w' => e = .returned (.tuple #[]) ∧ MgTo w0 K L0 v Y M (turnV V n r.view kind) w' :=
  (turn_in h n hr kind hlen).mono fun e w' hh => by
    obtain ⟨h1, ev, h2⟩ := hh
    exact ⟨h1, K1, L1, X, Y1, _, h2, by rw [vw_turn, hv], rfl, ht, rfl, hK, hL⟩
end
end Go.Proofs.YtkhnkidggcjfeaaGreatDoor
end
section
namespace Go.Proofs.YtkhnkidggcjfeaaGreatDoor
open Go.RowKit
open Go.ChangeMaps (setBlock)
section
variable {w0 w w' : World} {v mb tb gb N : Nat} {us : List GU} {ord : OrdX} {V : MV}
end
end Go.Proofs.YtkhnkidggcjfeaaGreatDoor
end
section
namespace Go.Proofs.YtkhnkidggcjfeaaGreatDoor
open Go.RowKit
open Go.ChangeMaps (setBlock)
section
variable {w0 w w' : World} {v mb tb gb N : Nat} {us : List GU} {ord : OrdX} {V : MV}
theorem MgTo.ofTb {K : Blocks} {L0 : List Rw} {Y Y1 : Tab} {M : MS} {V : MV} (h : MgTo w0 K L0 v Y1 M V w) (ht : Y1.tb = Y.tb) : MgTo w0 K L0 v Y M V w := by
  obtain ⟨K', L2, X', Y', M', h1, h2, h3, h4, h5⟩ := h
  exact ⟨K', L2, X', Y', M', h1, h2, h3, h4.trans ht, h5⟩
def endV (us : List GU) (V : MV) (n : Nm) (st tries : Int) : MV :=
  if st = 3 then turnV V n RV.zero 3 else if st = 1 ∧ n ∈ namesU us ∧ tries < (findU us n).ret ∧ onV V (findU us n).re = true then (issueV V n (findU us n).fi (tries + 1)).2 else turnV V n ⟨4, 0, 0, []⟩ 4
theorem failV_end (us : List GU) (V : MV) (n : Nm) (hp : (ofV V n).pid ≠ 0) : failV us V n = (0, endV us (exitV V (ofV V n).pid) n (ofV V n).state (ofV V n).tries) := by
  unfold failV endV
  rw [if_neg hp, on_exit]
  split
  · rfl
  · split <;> rfl
set_option maxHeartbeats 16000000 in
theorem fail_at (h : MgAt w0 v mb tb gb us ord N V w) (hm : Mx w0) (hN : N ≤ 9000) (hf : ShortF us) (n : Nm) (hn : n.length ≤ n.length) :
    Calls Tryz.prog 10 #[.pointer (some ⟨mb, 0, none⟩), .string (toB n)] w fun e w' => e = .returned (.int .i64 (failV us V n).1) ∧ MgAt w0 v mb tb gb us ord (N + 2) (failV us V n).2 w' := by
  obtain ⟨K, L0, X, Y, M, h, rfl, rfl, rfl, rfl, hg, hG⟩ := h
  obtain ⟨⟨c0, c1, c2, c3⟩, _⟩ := h.cells
  have hl := h.lookup n
  have hok := h.ok n
  obtain ⟨a, c, hs⟩ := h.shape n
  have hof : ofV (vw X Y M) n = (M.of n).view := of_vw X Y M n
  have htr := hG.of n
  have HP := Lib.hid (fun (V' : MV) (W : World) (hV : (failV us (vw X Y M) n).2 = V') (hW : MgTo w0 K L0 v Y M V' W) => (show MgAt w0 v M.m Y.tb M.g us ord (N + 2) (failV us (vw X Y M) n).2 W from (by rw [hV]; exact hW.at hg (hV ▸ hG.fail us n hn))))
  have hR : (M.of n).pid ≠ 0 → failV us (vw X Y M) n = (0, endV us (exitV (vw X Y M) (M.of n).pid) n (M.of n).state (M.of n).tries) := fun hp => by
    have := failV_end us (vw X Y M) n (by rw [hof]; exact hp)
    rw [hof] at this
    exact this
  have hR0 : (M.of n).pid = 0 → failV us (vw X Y M) n = (20, vw X Y M) := fun hp => by
    unfold failV
    rw [hof, if_pos (show (M.of n).view.pid = 0 from hp)]
  have hlen := evs_le hG (by omega)
  have hG1 := hG.exit (M.of n).pid
  rw [hof] at htr
  unfold RunD.val at hl
  generalize M.of n = r at *
  obtain ⟨st, pid, hv, tr, fs⟩ := r
  dsimp only at hs hl hR hR0 hG1
  have htr2 : 0 ≤ tr ∧ tr ≤ (N : Int) := htr
  subst hs
  clear hof htr
  obtain ⟨h1, hK⟩ := h.newK (.cells #[.int .i64 st, .int .i64 pid, .slice a fs.length c, .int .i64 tr] 75)
  have hc1 := h1.cellK (List.mem_cons_self ..)
  have b0 := cell_at hc1 0
  have b1 := cell_at hc1 1
  have d0 := h1.cells.1.1
  by_cases hp0 : pid = 0
  · subst hp0
    have HR := Lib.hid (hR0 rfl)
    have HT := Lib.hid (show MgTo w0 K L0 v Y M (vw X Y M) (w.alloc (.cells #[.int .i64 st, .int .i64 0, .slice a fs.length c, .int .i64 tr] 75)) from h1.to.less (fun m hm => List.mem_cons_of_mem _ hm) (fun _ h => h))
    clear h h1 hc1 hG hg hK hok hlen hR hR0 hG1 c0 c1 c3 d0 htr2 hm
    generalize hfl : fs.length = fl at *
    generalize hnb : toB n = nb at *
    go_enter Tryz.func10, Tryz.ntmps10
    go_wp2_with fail
    go_ret
    exact ⟨by rw [HR.out]; rfl, HP.out _ _ (by rw [HR.out]) HT.out⟩
  have g0 : (pid == 0) = false := by simpa using hp0
  have HR := Lib.hid (hR hp0)
  have HEX := Lib.hid (fun (W : World) (hb : Below (w.alloc (.cells #[.int .i64 st, .int .i64 pid, .slice a fs.length c, .int .i64 tr] 75)).heap.size (w.alloc (.cells #[.int .i64 st, .int .i64 pid, .slice a fs.length c, .int .i64 tr] 75)) W) => exit_in (h1.later hb) hG (by omega) pid)
  -- behind the end, at whatever world
  have HB := Lib.hid (fun (X1 : VX) (Y1 : Tab) (W : World) (h3 : MgIn w0 ((w.heap.size, .cells #[.int .i64 st, .int .i64 pid, .slice a fs.length c, .int .i64 tr] 75) :: K) L0 v X1 Y1 M W) (ht : Y1.tb = Y.tb) => (show
      (W.cell? ⟨w.heap.size, 0, none⟩ = some (.int .i64 st) ∧ W.cell? ⟨w.heap.size, 1, none⟩ = some (.int .i64 pid) ∧ W.cell? ⟨w.heap.size, 3, none⟩ = some (.int .i64 tr) ∧ W.cell? ⟨M.m, 0, none⟩ = some (.pointer (some ⟨Y.tb, 0, none⟩)) ∧ W.cell? ⟨M.m, 1, none⟩ = some (.pointer (some ⟨M.g, 0, none⟩))) ∧ GAt W M.g us ord.ord from by
    have e1 := h3.cellK (List.mem_cons_self ..)
    exact ⟨⟨cell_at e1 0, cell_at e1 1, cell_at e1 3, by rw [← ht]; exact h3.cells.1.1, h3.cells.1.2.1⟩, (hg.mono (fun m hm => List.mem_cons_of_mem _ hm) (fun _ h => h)).atM h3⟩))
  have HM := Lib.hid hm
  have HG1 := Lib.hid hG1
  have HF := Lib.hid (hf n)
  have HL := Lib.hid hlen
  have HTR := Lib.hid htr2
  clear h h1 hc1 hG hg hK hok hlen hR hR0 hG1 c0 c1 c3 hp0 hm hf htr2
  generalize hfl : fs.length = fl at *
  generalize hW1 : w.alloc (.cells #[.int .i64 st, .int .i64 pid, .slice a fl c, .int .i64 tr] 75) = w1 at *
  have HW1 := Lib.hid hW1
  clear hW1
  have hS := And.intro d0 b1
  have hS2 : w1.drew.cell? ⟨M.m, 0, none⟩ = some (.pointer (some ⟨Y.tb, 0, none⟩)) ∧ w1.drew.cell? ⟨w.heap.size, 1, none⟩ = some (.int .i64 pid) := hS
  go_enter Tryz.func10, Tryz.ntmps10
  go_wp2_with fail
  rw [HW1.out]
  go_region_held3 (fun W : World => W.cell? ⟨M.m, 0, none⟩ = some (.pointer (some ⟨Y.tb, 0, none⟩)) ∧ W.cell? ⟨w.heap.size, 1, none⟩ = some (.int .i64 pid)) (first | exact hS | exact hS2 | exact hS3 | exact hS4) (first | (go_at_call 25; refine (HEX.out _ ?_).mono ?_; (first | exact Below.refl _ _ | exact (Below.refl _ _).drew); rintro e w3 ⟨⟨k, rfl⟩, X1, Y1, ht1, hv1, h3⟩; obtain ⟨⟨q0, q1, q2, q3, q4⟩, hg3⟩ := HB.out X1 Y1 w3 h3 ht1; have hS3 := And.intro q3 q1; have hS4 : w3.drew.cell? ⟨M.m, 0, none⟩ = some (.pointer (some ⟨Y.tb, 0, none⟩)) ∧ w3.drew.cell? ⟨w.heap.size, 1, none⟩ = some (.int .i64 pid) := hS3; have H3 := Lib.hid h3; have HT1 := Lib.hid ht1; have HV1 := Lib.hid hv1; have HG3 := Lib.hid hg3; clear h3 ht1 hv1 hg3 q0 q1 q2 q3))
  have hget := HG3.out.get2 n
  clear d0 b0 b1 c2 hl hS hS2 hS3 hS4
  go_wp2_with fail
  refine hget.mono ?_
  rintro e w4 ⟨y, _, hyr, hU, rfl, hO⟩
  have h4 := H3.out.join (S' := []) hO
  have hone := Lib.hid hU.one
  have hcs : (Tryz.prog.info? 63).map (·.size) = some y.cells.length := info_uv
  have h8 := Lib.hid (show (8 : Nat) = y.cells.length from rfl)
  have D1 := Lib.hid (show y.cells[1]? = some y.v1 from rfl)
  have D4 := Lib.hid (show y.cells[4]? = some y.v4 from rfl)
  have D7 := Lib.hid (show y.cells[7]? = some (.int .i64 (findU us n).ret) from by rw [← hyr]; rfl)
  have HI1 := Lib.hid (show (⟨0, 0, y.v1, 0, (findU us n).fi⟩ : RunD).Ok (rows6 y (findU us n) ++ L0) from .inr (List.mem_append_left _ (by simp [rows6])))
  have S4 := Lib.hid hU.s4
  have H4 := Lib.hid h4
  clear hget hyr hU hO h4 H3 HG3 q4
  generalize y.cells = cs at *
  go_upto_region 6 with (refine wpList_store_new rfl 63 (.tmp 6) (.tmp 32) rfl (Own.start w4) cs w4.heap.size rfl rfl rfl h8.out hcs hone.out ?_)
  intro w5 hO5 _
  have e1 : w5.cell? ⟨w4.heap.size, 1, none⟩ = some y.v1 := by rw [hO5.cell 1 (by rw [← h8.out]; decide)]; exact D1.out
  have e4 : w5.cell? ⟨w4.heap.size, 4, none⟩ = some y.v4 := by rw [hO5.cell 4 (by rw [← h8.out]; decide)]; exact D4.out
  have e7 : w5.cell? ⟨w4.heap.size, 7, none⟩ = some (.int .i64 (findU us n).ret) := by rw [hO5.cell 7 (by rw [← h8.out]; decide)]; exact D7.out
  have h5 := H4.out.later hO5.below
  have s4 := S4.out.later hO5.below
  have hbx := h5.cellK (List.mem_cons_self ..)
  have x0 := cell_at hbx 0
  have x3 := cell_at hbx 3
  obtain ⟨a1, k1, hv1⟩ : ∃ a c, y.v1 = .slice a (findU us n).fi.length c := HI1.out.shape h5
  obtain ⟨a4, n4, k4, hv4⟩ := s4.shape
  have hon := allOn_in h5 s4
  have hKK : ∀ m ∈ K, m ∈ ([] : Blocks) ++ ((w.heap.size, Obj.cells #[.int .i64 st, .int .i64 pid, .slice a fl c, .int .i64 tr] 75) :: K) := fun m hm => List.mem_cons_of_mem _ hm
  have hLL : ∀ r ∈ L0, r ∈ rows6 y (findU us n) ++ L0 := fun r hr => List.mem_append_right _ hr
  have HT3 := Lib.hid (fun (W : World) (hb : Below w5.heap.size w5 W) => turn_mg (K := K) (L0 := L0) (Y := Y) (h5.later hb) n (r := ⟨0, 0, .slice none 0 0, 0, []⟩) (.inl ⟨rfl, rfl⟩) 3 HL.out HV1.out HT1.out hKK hLL)
  have HT4 := Lib.hid (fun (W : World) (hb : Below w5.heap.size w5 W) => turn_mg (K := K) (L0 := L0) (Y := Y) (h5.later hb) n (r := ⟨4, 0, .slice none 0 0, 0, []⟩) (.inl ⟨rfl, rfl⟩) 4 HL.out HV1.out HT1.out hKK hLL)
  have HIS := Lib.hid (fun (W : World) (hb : Below w5.heap.size w5 W) => issue_in (h5.later hb) HM.out (HV1.out ▸ HG1.out) (by omega) n HI1.out HF.out (tr + 1))
  have HXC := Lib.hid (fun (W : World) (hb : Below w5.heap.size w5 W) => (show W.cell? ⟨w.heap.size, 0, none⟩ = some (.int .i64 st) ∧ W.cell? ⟨w.heap.size, 3, none⟩ = some (.int .i64 tr) ∧ W.cell? ⟨w4.heap.size, 1, none⟩ = some y.v1 from
    ⟨(hb.cell (p := ⟨w.heap.size, 0, none⟩) (World.block_lt_of_cell? w5 ⟨w.heap.size, 0, none⟩ x0)).trans x0, (hb.cell (p := ⟨w.heap.size, 3, none⟩) (World.block_lt_of_cell? w5 ⟨w.heap.size, 3, none⟩ x3)).trans x3, (hb.cell (p := ⟨w4.heap.size, 1, none⟩) (World.block_lt_of_cell? w5 ⟨w4.heap.size, 1, none⟩ e1)).trans e1⟩))
  have HTO := Lib.hid (fun (V' : MV) (W : World) (hW : MgTo w0 ([] ++ ((w.heap.size, Obj.cells #[.int .i64 st, .int .i64 pid, .slice a fl c, .int .i64 tr] 75) :: K)) (rows6 y (findU us n) ++ L0) v Y1 M V' W) => (show MgTo w0 K L0 v Y M V' W from (hW.less hKK hLL).ofTb HT1.out))
  unfold RunD.val at HT3 HT4
  dsimp only at HT3 HT4
  rw [HV1.out] at hon HIS
  rw [hv1] at e1 HIS HXC
  rw [hv4] at e4 hon
  clear hO5 h5 s4 S4 HI1 H4 hone h8 hcs D1 D4 D7 hbx hKK hLL hv1 hv4 HB HEX HG1 HL HM HF
  have HE := Lib.hid (show endV us (exitV (vw X Y M) pid) n st tr = if st = 3 then turnV (exitV (vw X Y M) pid) n RV.zero 3 else if st = 1 ∧ n ∈ namesU us ∧ tr < (findU us n).ret ∧ onV (exitV (vw X Y M) pid) (findU us n).re = true then (issueV (exitV (vw X Y M) pid) n (findU us n).fi (tr + 1)).2 else turnV (exitV (vw X Y M) pid) n ⟨4, 0, 0, []⟩ 4 from rfl)
  have hwr : IntKind.i64.wrap (tr + 1) = tr + 1 := IntWalk.i64_in _ (by have := HTR.out; omega)
  clear HTR
  generalize hfl1 : (findU us n).fi.length = fl1 at *
  generalize hret : (findU us n).ret = ret at *
  generalize hob : onV (exitV (vw X Y M) pid) (findU us n).re = bo at *
  have HOB := Lib.hid hob
  clear hob hret hfl1
  generalize hbd : decide (n ∈ namesU us) = b at *
  have HBD := Lib.hid hbd
  clear hbd
  cases b with
  | false =>
    by_cases h3 : st = 3
    · subst h3
      have HS := Lib.hid (show endV us (exitV (vw X Y M) pid) n 3 tr = turnV (exitV (vw X Y M) pid) n RV.zero 3 from by rw [HE.out, if_pos rfl])
      clear HE HTO
      go_wp2_with (first
        | (go_at_call 26; refine (HT3.out w5 (Below.refl _ _)).mono ?_; rintro e w7 ⟨rfl, h7⟩; have H7 := Lib.hid h7; clear h7))
      go_ret
      exact ⟨by rw [HR.out]; rfl, HP.out _ _ (by rw [HR.out]; exact HS.out) H7.out⟩
    by_cases h1 : st = 1
    · subst h1
      have HS := Lib.hid (show endV us (exitV (vw X Y M) pid) n 1 tr = turnV (exitV (vw X Y M) pid) n ⟨4, 0, 0, []⟩ 4 from by rw [HE.out, if_neg (by decide), if_neg (fun h => of_decide_eq_false HBD.out h.2.1)])
      clear HE HTO
      go_wp2_with (first
        | (go_at_call 26; refine (HT4.out w5 (Below.refl _ _)).mono ?_; rintro e w7 ⟨rfl, h7⟩; have H7 := Lib.hid h7; clear h7))
      go_ret
      exact ⟨by rw [HR.out]; rfl, HP.out _ _ (by rw [HR.out]; exact HS.out) H7.out⟩
    have HN3 := Lib.hid h3
    have HN1 := Lib.hid h1
    have g3 : (st == 3) = false := by simpa using h3
    have g1 : (st == 1) = false := by simpa using h1
    clear h3 h1
    have HS := Lib.hid (show endV us (exitV (vw X Y M) pid) n st tr = turnV (exitV (vw X Y M) pid) n ⟨4, 0, 0, []⟩ 4 from by rw [HE.out, if_neg HN3.out, if_neg (fun h => HN1.out h.1)])
    clear HE HTO
    go_wp2_with (first
      | (go_at_call 26; refine (HT4.out w5 (Below.refl _ _)).mono ?_; rintro e w7 ⟨rfl, h7⟩; have H7 := Lib.hid h7; clear h7))
    go_ret
    exact ⟨by rw [HR.out]; rfl, HP.out _ _ (by rw [HR.out]; exact HS.out) H7.out⟩
  | true =>
    by_cases hlt : tr < ret
    · have HLT := Lib.hid hlt
      cases bo with
      | true =>
        by_cases h3 : st = 3
        · subst h3
          have HS := Lib.hid (show endV us (exitV (vw X Y M) pid) n 3 tr = turnV (exitV (vw X Y M) pid) n RV.zero 3 from by rw [HE.out, if_pos rfl])
          clear HE HTO
          go_wp2_with (first
            | (go_at_call 26; refine (HT3.out w6 HB6.out).mono ?_; rintro e w7 ⟨rfl, h7⟩; have H7 := Lib.hid h7; clear h7)
            | (go_at_call 23; refine hon.mono ?_; rintro e w6 ⟨rfl, hb6⟩; obtain ⟨z0, z3, z1⟩ := HXC.out w6 hb6; have HB6 := Lib.hid hb6; clear hb6))
          go_ret
          exact ⟨by rw [HR.out]; rfl, HP.out _ _ (by rw [HR.out]; exact HS.out) H7.out⟩
        by_cases h1 : st = 1
        · subst h1
          have HS := Lib.hid (show endV us (exitV (vw X Y M) pid) n 1 tr = (issueV (exitV (vw X Y M) pid) n (findU us n).fi (tr + 1)).2 from by rw [HE.out, if_neg (by decide), if_pos ⟨rfl, of_decide_eq_true HBD.out, HLT.out, rfl⟩])
          clear HE
          go_wp2_with (first
            | (go_at_call 24; have _g := HB6.out; clear _g; refine (HIS.out w6 HB6.out).mono ?_; rintro e w7 ⟨rfl, h7⟩; have H7 := Lib.hid (HTO.out _ _ h7); clear h7)
            | (go_at_call 23; refine hon.mono ?_; rintro e w6 ⟨rfl, hb6⟩; obtain ⟨z0, z3, z1⟩ := HXC.out w6 hb6; have HB6 := Lib.hid hb6; clear hb6))
          go_ret
          exact ⟨by rw [HR.out]; rfl, HP.out _ _ (by rw [HR.out]; exact HS.out) H7.out⟩
        have HN3 := Lib.hid h3
        have HN1 := Lib.hid h1
        have g3 : (st == 3) = false := by simpa using h3
        have g1 : (st == 1) = false := by simpa using h1
        clear h3 h1
        have HS := Lib.hid (show endV us (exitV (vw X Y M) pid) n st tr = turnV (exitV (vw X Y M) pid) n ⟨4, 0, 0, []⟩ 4 from by rw [HE.out, if_neg HN3.out, if_neg (fun h => HN1.out h.1)])
        clear HE HTO
        go_wp2_with (first
          | (go_at_call 26; refine (HT4.out w6 HB6.out).mono ?_; rintro e w7 ⟨rfl, h7⟩; have H7 := Lib.hid h7; clear h7)
          | (go_at_call 23; refine hon.mono ?_; rintro e w6 ⟨rfl, hb6⟩; obtain ⟨z0, z3, z1⟩ := HXC.out w6 hb6; have HB6 := Lib.hid hb6; clear hb6))
        go_ret
        exact ⟨by rw [HR.out]; rfl, HP.out _ _ (by rw [HR.out]; exact HS.out) H7.out⟩
      | false =>
        by_cases h3 : st = 3
        · subst h3
          have HS := Lib.hid (show endV us (exitV (vw X Y M) pid) n 3 tr = turnV (exitV (vw X Y M) pid) n RV.zero 3 from by rw [HE.out, if_pos rfl])
          clear HE HTO
          go_wp2_with (first
            | (go_at_call 26; refine (HT3.out w6 HB6.out).mono ?_; rintro e w7 ⟨rfl, h7⟩; have H7 := Lib.hid h7; clear h7)
            | (go_at_call 23; refine hon.mono ?_; rintro e w6 ⟨rfl, hb6⟩; obtain ⟨z0, z3, z1⟩ := HXC.out w6 hb6; have HB6 := Lib.hid hb6; clear hb6))
          go_ret
          exact ⟨by rw [HR.out]; rfl, HP.out _ _ (by rw [HR.out]; exact HS.out) H7.out⟩
        by_cases h1 : st = 1
        · subst h1
          have HS := Lib.hid (show endV us (exitV (vw X Y M) pid) n 1 tr = turnV (exitV (vw X Y M) pid) n ⟨4, 0, 0, []⟩ 4 from by rw [HE.out, if_neg (by decide), if_neg (fun h => Bool.noConfusion h.2.2.2)])
          clear HE HTO
          go_wp2_with (first
            | (go_at_call 26; refine (HT4.out w6 HB6.out).mono ?_; rintro e w7 ⟨rfl, h7⟩; have H7 := Lib.hid h7; clear h7)
            | (go_at_call 23; refine hon.mono ?_; rintro e w6 ⟨rfl, hb6⟩; obtain ⟨z0, z3, z1⟩ := HXC.out w6 hb6; have HB6 := Lib.hid hb6; clear hb6))
          go_ret
          exact ⟨by rw [HR.out]; rfl, HP.out _ _ (by rw [HR.out]; exact HS.out) H7.out⟩
        have HN3 := Lib.hid h3
        have HN1 := Lib.hid h1
        have g3 : (st == 3) = false := by simpa using h3
        have g1 : (st == 1) = false := by simpa using h1
        clear h3 h1
        have HS := Lib.hid (show endV us (exitV (vw X Y M) pid) n st tr = turnV (exitV (vw X Y M) pid) n ⟨4, 0, 0, []⟩ 4 from by rw [HE.out, if_neg HN3.out, if_neg (fun h => HN1.out h.1)])
        clear HE HTO
        go_wp2_with (first
          | (go_at_call 26; refine (HT4.out w6 HB6.out).mono ?_; rintro e w7 ⟨rfl, h7⟩; have H7 := Lib.hid h7; clear h7)
          | (go_at_call 23; refine hon.mono ?_; rintro e w6 ⟨rfl, hb6⟩; obtain ⟨z0, z3, z1⟩ := HXC.out w6 hb6; have HB6 := Lib.hid hb6; clear hb6))
        go_ret
        exact ⟨by rw [HR.out]; rfl, HP.out _ _ (by rw [HR.out]; exact HS.out) H7.out⟩
    · have HLT := Lib.hid hlt
      by_cases h3 : st = 3
      · subst h3
        have HS := Lib.hid (show endV us (exitV (vw X Y M) pid) n 3 tr = turnV (exitV (vw X Y M) pid) n RV.zero 3 from by rw [HE.out, if_pos rfl])
        clear HE HTO
        go_wp2_with (first
          | (go_at_call 26; refine (HT3.out w5 (Below.refl _ _)).mono ?_; rintro e w7 ⟨rfl, h7⟩; have H7 := Lib.hid h7; clear h7))
        go_ret
        exact ⟨by rw [HR.out]; rfl, HP.out _ _ (by rw [HR.out]; exact HS.out) H7.out⟩
      by_cases h1 : st = 1
      · subst h1
        have HS := Lib.hid (show endV us (exitV (vw X Y M) pid) n 1 tr = turnV (exitV (vw X Y M) pid) n ⟨4, 0, 0, []⟩ 4 from by rw [HE.out, if_neg (by decide), if_neg (fun h => HLT.out h.2.2.1)])
        clear HE HTO
        go_wp2_with (first
          | (go_at_call 26; refine (HT4.out w5 (Below.refl _ _)).mono ?_; rintro e w7 ⟨rfl, h7⟩; have H7 := Lib.hid h7; clear h7))
        go_ret
        exact ⟨by rw [HR.out]; rfl, HP.out _ _ (by rw [HR.out]; exact HS.out) H7.out⟩
      have HN3 := Lib.hid h3
      have HN1 := Lib.hid h1
      have g3 : (st == 3) = false := by simpa using h3
      have g1 : (st == 1) = false := by simpa using h1
      clear h3 h1
      have HS := Lib.hid (show endV us (exitV (vw X Y M) pid) n st tr = turnV (exitV (vw X Y M) pid) n ⟨4, 0, 0, []⟩ 4 from by rw [HE.out, if_neg HN3.out, if_neg (fun h => HN1.out h.1)])
      clear HE HTO
      go_wp2_with (first
        | (go_at_call 26; refine (HT4.out w5 (Below.refl _ _)).mono ?_; rintro e w7 ⟨rfl, h7⟩; have H7 := Lib.hid h7; clear h7))
      go_ret
      exact ⟨by rw [HR.out]; rfl, HP.out _ _ (by rw [HR.out]; exact HS.out) H7.out⟩
end
end Go.Proofs.YtkhnkidggcjfeaaGreatDoor
end
section
namespace Go.Proofs.YtkhnkidggcjfeaaGreatDoor
open Go.RowKit
open Go.ChangeMaps (setBlock)
section
variable {w0 w w' : World} {v mb tb gb N : Nat} {us : List GU} {ord : OrdX} {V : MV}
theorem pid_at (h : MgAt w0 v mb tb gb us ord N V w) (n : Nm) : Calls Tryz.prog 40 #[.pointer (some ⟨mb, 0, none⟩), .string (toB n)] w fun e w' => e = .returned (.int .i64 (ofV V n).pid) ∧ w = w' := by
  obtain ⟨K, L0, X, Y, M, h, rfl, rfl, rfl, rfl, hg, hG⟩ := h
  rw [of_vw]
  exact pid_in h n
theorem has_at (h : MgAt w0 v mb tb gb us ord N V w) (n : Nm) (hlen : (ofV V n).files.length ≤ 1000000) : Calls Tryz.prog 41 #[.pointer (some ⟨mb, 0, none⟩), .string (toB n)] w fun e w' => ∃ v', e = .returned v' ∧ Own w w' [rowSs v' (ofV V n).files] := by
  obtain ⟨K, L0, X, Y, M, h, rfl, rfl, rfl, rfl, hg, hG⟩ := h
  rw [of_vw] at hlen ⊢
  exact has_in h n hlen
theorem mgcells (h : MgAt w0 v mb tb gb us ord N V w) : w.cell? ⟨mb, 0, none⟩ = some (.pointer (some ⟨tb, 0, none⟩)) := by
  obtain ⟨K, L0, X, Y, M, h, rfl, rfl, rfl, rfl, hg, hG⟩ := h
  exact h.cells.1.1
end
end Go.Proofs.YtkhnkidggcjfeaaGreatDoor
end
section
namespace Go.Proofs.YtkhnkidggcjfeaaGreatDoor
open Go.RowKit
open Go.ChangeMaps (setBlock)
section
variable {w0 w w' : World} {v mb tb gb N : Nat} {us : List GU} {ord : OrdX} {V : MV}
end
end Go.Proofs.YtkhnkidggcjfeaaGreatDoor
end
section
namespace Go.Proofs.YtkhnkidggcjfeaaGreatDoor
open Go.RowKit
open Go.ChangeMaps (setBlock)
def pBin : List UInt8 := [47, 98, 105, 110]
def pBinS : List UInt8 := [47, 98, 105, 110, 47]
def nmsM : List (List UInt8) := [[97], [98], [99], [100], [101]]
def opM (k : Int) (p : List UInt8) : OpD := ⟨k, toB p, ⟨#[]⟩, none, 0, 0⟩
def opsM : List OpD := opM 0 pBin :: nmsM.map fun n => opM 2 (pBinS ++ n)
def xsM : List OpE := ⟨0, pBin, [], []⟩ :: nmsM.map fun n => ⟨2, pBinS ++ n, [], []⟩
def recM : List OpB := [⟨0, [47, 98, 105, 110], [], []⟩, ⟨2, [47, 98, 105, 110, 47, 97], [], []⟩, ⟨2, [47, 98, 105, 110, 47, 98], [], []⟩, ⟨2, [47, 98, 105, 110, 47, 99], [], []⟩, ⟨2, [47, 98, 105, 110, 47, 100], [], []⟩, ⟨2, [47, 98, 105, 110, 47, 101], [], []⟩]
def EM : Et := ⟨3000, 8, [(1, ⟨true, [(toB [98, 105, 110], 2)], [], 0⟩), (2, ⟨true, [(toB [97], 3), (toB [98], 4), (toB [99], 5), (toB [100], 6), (toB [101], 7)], [], 0⟩), (3, ⟨false, [], [], 1⟩), (4, ⟨false, [], [], 1⟩), (5, ⟨false, [], [], 1⟩), (6, ⟨false, [], [], 1⟩), (7, ⟨false, [], [], 1⟩)]⟩
section
variable {w0 w w' : World} {S S' S1 : Blocks} {R L L' L1 M : List Rw} {v c n d t b : Nat} {X : VX} {T T' Tc T1 : Tr} {K : Blocks}
theorem Ops.rowD {a : Option Addr} {cp : Nat} {ops : List OpD} {xs : List OpE} (hm : rowO (.slice a ops.length cp) ops ∈ L) (hlen : xs.length = ops.length) (hin : ∀ i (h : i < ops.length), OpIn w0 S L ops[i] (xs[i]'(by omega))) : Ops w0 S L a ops xs := by
  refine ⟨hlen, fun w' S' L' k1 k2 k3 i hi => ?_, hin⟩
  have hrow := k1.only (k3 _ hm)
  obtain ⟨g, cp2, e, _⟩ := Own.form (h := (show Own ⟨w0, S'⟩ w' (⟨40, 4, .slice a ops.length cp, ops.length, (ops.map OpD.cells).flatten⟩ :: []) from hrow)) (by omega)
  injection e with e1 e2 e3
  subst e1
  refine ⟨g, 0, rfl, fun j u hj => ?_⟩
  have hj4 : j < 4 := by
    have := (List.getElem?_eq_some_iff.1 hj).1
    exact this
  have hrow2 : Own ⟨w0, S'⟩ w' (⟨40, 4, .slice (some ⟨g, 0, none⟩) ops.length cp, ops.length, (ops.map OpD.cells).flatten⟩ :: []) := hrow
  have h6 := Own.cell (h := hrow2) (i * 4 + j) (by omega)
  rw [Nat.zero_add, h6, flatO _ i j hi hj4]
  exact hj
end
end Go.Proofs.YtkhnkidggcjfeaaGreatDoor
end
section
namespace Go.Proofs.YtkhnkidggcjfeaaGreatDoor
open Go.RowKit
open Go.ChangeMaps (setBlock)
def idxI (p : Int → Bool) (l : List Int) : Int := match l.findIdx? p with
  | none => -1
  | some k => (k : Int)
theorem idxI_cases (p : Int → Bool) (l : List Int) : (l.findIdx? p = none ∧ idxI p l = -1 ∧ ∀ x ∈ l, p x = false) ∨ ∃ k, ∃ h : k < l.length, l.findIdx? p = some k ∧ idxI p l = (k : Int) ∧ p l[k] = true ∧ ∀ j (hj : j < l.length), j < k → p l[j] = false := by
  unfold idxI
  cases h : l.findIdx? p with
  | none => exact .inl ⟨rfl, rfl, by simpa using h⟩
  | some k =>
    obtain ⟨h1, h2, h3⟩ := List.findIdx?_eq_some_iff_getElem.1 h
    exact .inr ⟨k, h1, rfl, rfl, h2, fun j hj hjk => by simpa using h3 j hjk⟩
theorem idxI_hit {p : Int → Bool} {l : List Int} {k : Nat} (hk : k < l.length) (h : p l[k] = true) (hb : ∀ j (hj : j < l.length), j < k → p l[j] = false) : idxI p l = (k : Int) := by
  rcases idxI_cases p l with ⟨_, _, e⟩ | ⟨k', hk', _, e, e3, e4⟩
  · rw [e _ (List.getElem_mem hk)] at h; cases h
  · rw [e]
    have : k' = k := by
      rcases Nat.lt_trichotomy k' k with h1 | h1 | h1
      · rw [hb k' hk' h1] at e3; cases e3
      · exact h1
      · rw [e4 k hk h1] at h; cases h
    rw [this]
theorem idxI_miss {p : Int → Bool} {l : List Int} (hb : ∀ j (hj : j < l.length), p l[j] = false) : idxI p l = -1 := by
  rcases idxI_cases p l with ⟨_, e, _⟩ | ⟨k', hk', _, e, e3, e4⟩
  · exact e
  · rw [hb k' hk'] at e3; cases e3
abbrev ints (l : List Int) : List Value := l.map (Value.int .i64)
theorem ints_length (l : List Int) : (ints l).length = l.length := by simp [ints]
def StI (w : World) (v : Value) (ls : List Int) : Prop :=
  ∃ a c, v = .slice a ls.length c ∧ ls.length ≤ c ∧ c ≤ maxLen ∧ (0 < ls.length → ∃ b o, a = some ⟨b, o, none⟩ ∧ b < w.heap.size ∧ ∀ (j : Nat) (h : j < ls.length), w.cell? ⟨b, o + j, none⟩ = some (.int .i64 ls[j]))
theorem StI.later {w w' : World} {v : Value} {ls : List Int} (h : StI w v ls) (hb : Below w.heap.size w w') : StI w' v ls := by
  obtain ⟨a, c, h1, h2, h3, h4⟩ := h
  refine ⟨a, c, h1, h2, h3, fun hn => ?_⟩
  obtain ⟨b, o, h5, h6, h7⟩ := h4 hn
  exact ⟨b, o, h5, Nat.lt_of_lt_of_le h6 hb.size, fun j hj => (hb.cell (p := ⟨b, o + j, none⟩) h6).trans (h7 j hj)⟩
theorem Own.stI {W0 : Base} {w : World} {v : Value} {ls : List Int} {L : List Rw} (h : Own W0 w (rowI v ls :: L)) : StI w v ls := by
  have h' : Own W0 w (⟨3, 1, v, ls.length, ints ls⟩ :: L) := h
  obtain ⟨a, c, h4, h5, h6⟩ := Own.sized (h := h')
  refine ⟨a, c, h4, h5, h6, fun hn => ?_⟩
  obtain ⟨g, cap, h1, _, hlt, _⟩ := Own.form (h := h') (by omega)
  rw [h1] at h4 h'
  injection h4 with e1 _ _
  refine ⟨g, 0, e1.symm, hlt, fun j hj => ?_⟩
  rw [Nat.zero_add, Own.cell (h := h') j (by omega), List.getElem?_map, List.getElem?_eq_getElem hj]; rfl
set_option maxHeartbeats 2000000 in
theorem index_int (g : Nat) (lb : Array Value) (p : Int → Bool) (eg : ∀ args w, (callFunc g args).run Tryz.prog w = .ok (.enter g args) w) (v : Value) (ls : List Int) (w : World) (h : StI w v ls)
    (hp : ∀ (W : World) (x : Int), x ∈ ls → Below w.heap.size w W → Calls Tryz.prog g (#[.int .i64 x] ++ lb) W fun e w' => e = .returned (.bool (p x)) ∧ Below W.heap.size W w') :
    Calls Tryz.prog 66 #[v, .func (.func g) #[] lb] w fun e w' => e = .returned (.int .i64 (idxI p ls)) ∧ Below w.heap.size w w' := by
  obtain ⟨a, c, rfl, h2, h3, h4⟩ := id h
  have h63 : ls.length ≤ 9223372036854775807 := by unfold maxLen at h3; omega
  have HC := Lib.hid h
  have HP := Lib.hid hp
  clear h h2 h3 h4 hp
  go_enter Tryz.func66, Tryz.ntmps66
  go_wp2_with fail
  go_loopw [8] (fun s8 wr => ∃ k : Nat, k ≤ ls.length ∧ s8 = .int .i64 k ∧ Hid (Below w.heap.size w wr) ∧ Hid (∀ j (hj : j < ls.length), j < k → p ls[j] = false)) (fun s8 _ => ls.length - (intOf s8).toNat)
  case atStart => exact ⟨0, Nat.zero_le _, rfl, Below.refl _ w, fun j _ hj => absurd hj (Nat.not_lt_zero _)⟩
  case round =>
    obtain ⟨k, hk, rfl, BW, A⟩ := hrel
    by_cases hlt : k < ls.length
    · obtain ⟨a', c', e, _, _, h4⟩ := HC.out.later BW.out
      injection e with e1 _ e3
      subst e1 e3
      obtain ⟨b, o, rfl, hb, hc⟩ := h4 (by omega)
      have l2 := hc k hlt
      have hcall := HP.out wr ls[k] (List.getElem_mem hlt) BW.out
      have HN := Lib.hid (fun (hq : p ls[k] = true) => idxI_hit hlt hq A.out)
      have HA := Lib.hid (fun (hq : p ls[k] = false) j (hj : j < ls.length) (hjk : j < k + 1) => (by
        rcases Nat.lt_or_ge j k with h | h
        · exact A.out j hj h
        · obtain rfl : j = k := by omega
          exact hq : p ls[j] = false))
      clear h4 hc
      generalize hy : ls[k] = y at l2 hcall
      have hyB := Lib.hid hy
      clear hy
      cases hq : p y with
      | true =>
        rw [hq] at hcall
        have hq' := Lib.hid hq
        clear hq
        go_wp2_with (go_at_fn g; refine hcall.mono ?_; rintro e w' ⟨rfl, hb'⟩)
        go_ret
        exact ⟨by rw [HN.out (by rw [hyB.out]; exact hq'.out)]; rfl, BW.out.trans (hb'.mono BW.out.size)⟩
      | false =>
        rw [hq] at hcall
        have hq' := Lib.hid hq
        clear hq
        go_wp2_with (go_at_fn g; refine hcall.mono ?_; rintro e w' ⟨rfl, hb'⟩)
        have HB := Lib.hid (BW.out.trans (hb'.mono BW.out.size))
        have HA2 := Lib.hid (HA.out (by rw [hyB.out]; exact hq'.out))
        go_roundw
        case rel => exact ⟨k + 1, by omega, by go_num, HB, HA2⟩
        case measure => simp [intOf]; omega
    · have HN := Lib.hid (idxI_miss (p := p) (l := ls) fun j hj => A.out j hj (by omega))
      go_wp2_with fail
      go_ret
      exact ⟨by rw [HN.out]; rfl, BW.out⟩
theorem row_takeI {W0 : Base} {w : World} {L : List Rw} {e g n cap : Nat} {xs : List Value} (h : Own W0 w (⟨e, 1, .slice (some ⟨g, 0, none⟩) n cap, n, xs⟩ :: L)) (k : Nat) (hk : k ≤ n) : Own W0 w (⟨e, 1, .slice (some ⟨g, 0, none⟩) k cap, k, xs.take k⟩ :: L) := by
  have hown : w.ownsRow W0.world.heap.size e 1 (.slice (some ⟨g, 0, none⟩) n cap) n xs := h.head
  have hlen := h.len
  have hap := List.pairwise_cons.1 h.apart
  refine ⟨h.below, fun p hp => ?_, List.pairwise_cons.2 ⟨fun q hq => hap.1 q hq, hap.2⟩, h.maps, fun m hm p hp => ?_⟩
  · rcases List.mem_cons.1 hp with rfl | hp
    · refine ⟨by simp at hlen ⊢; omega, ?_⟩
      rcases hown.2 with ⟨hv, hn⟩ | ⟨g', cap', cur, hv, hg, hb, hn, hcap, hsz, htk⟩
      · cases hv
      · refine .inr ⟨g', cap', cur, ?_, hg, hb, by show k ≤ _; omega, hcap, hsz, ?_⟩
        · injection hv with e1 e2 e3
          show Value.slice _ _ _ = Value.slice _ _ _
          rw [e1, e3]
        · show List.take (k * 1) cur.toList = xs.take k
          rw [Nat.mul_one]
          rw [Nat.mul_one] at htk
          have e9 : cur.toList.take k = (cur.toList.take n).take k := by rw [List.take_take]; congr 1; omega
          rw [e9, htk]
    · exact h.rows p (List.mem_cons_of_mem _ hp)
  · rcases List.mem_cons.1 hp with rfl | hp
    · exact h.offmaps m hm (⟨e, 1, .slice (some ⟨g, 0, none⟩) n cap, n, xs⟩ : Rw) (List.mem_cons_self ..)
    · exact h.offmaps m hm p (List.mem_cons_of_mem _ hp)
theorem filter_take_succI (q : Int → Bool) (ls : List Int) (j : Nat) (hj : j < ls.length) : (ls.take (j + 1)).filter q = (ls.take j).filter q ++ if q ls[j] then [ls[j]] else [] := by
  rw [List.take_succ_eq_append_getElem hj, List.filter_append]
  cases h : q ls[j] <;> simp [h]
theorem set_splitI (l : List Int) (i : Nat) (x : Int) (hi : i < l.length) : (l.set i x).take (i + 1) = l.take i ++ [x] ∧ ∀ j, i < j → (l.set i x).drop j = l.drop j := by
  constructor
  · rw [List.take_succ_eq_append_getElem (by simpa using hi), List.take_set_of_le (Nat.le_refl i)]
    simp
  · intro j hj
    rw [List.drop_set_of_lt hj]
theorem ints_set (l : List Int) (i : Nat) (x : Int) : (ints l).set i (.int .i64 x) = ints (l.set i x) := by
  simp [ints]
theorem ints_at (l : List Int) (j : Nat) (hj : j < l.length) : (ints l)[j]? = some (.int .i64 l[j]) := by
  rw [List.getElem?_map, List.getElem?_eq_getElem hj]; rfl
set_option maxHeartbeats 8000000 in
theorem delI_row {W0 : Base} {w : World} {L : List Rw} {v : Value} {ls : List Int} (h : Own W0 w (rowI v ls :: L)) (hl : ls.length ≤ 1000000) (g : Nat) (lb : Array Value) (p : Int → Bool) (eg : ∀ args w, (callFunc g args).run Tryz.prog w = .ok (.enter g args) w)
    (hp : ∀ W v' l', Own W0 W (rowI v' l' :: L) → ∀ x, Calls Tryz.prog g (#[.int .i64 x] ++ lb) W fun e w' => e = .returned (.bool (p x)) ∧ Below W.heap.size W w') :
    Calls Tryz.prog 32 #[v, .func (.func g) #[] lb] w fun e w' => ∃ v', e = .returned v' ∧ Own W0 w' (rowI v' (ls.filter fun x => !p x) :: L) := by
  have ki := index_int g lb p eg v ls w h.stI (fun W x _ hb => hp W v ls (h.later hb) x)
  obtain ⟨a, n0, c, hv⟩ := (show ∃ a n c, v = .slice a n c from (by obtain ⟨a, c, e, _⟩ := h.stI; exact ⟨a, _, c, e⟩))
  subst hv
  have H := Lib.hid h
  have HP := Lib.hid hp
  have hn0 : n0 = ls.length := by
    obtain ⟨a', c', e', _⟩ := h.stI
    injection e'
  subst hn0
  have hlz : (ls.length : Int) ≤ 1000000 := by omega
  clear h hp
  rcases idxI_cases p ls with ⟨_, e2, e3⟩ | ⟨k, hk, _, e2, e3, e4⟩
  · rw [e2] at ki
    have HE := Lib.hid (show (ls.filter fun x => !p x) = ls from List.filter_eq_self.2 fun x hx => by rw [e3 x hx]; rfl)
    clear e2 e3
    go_enter Tryz.func32, Tryz.ntmps32
    go_wp2_with (go_at_call 66; refine ki.mono ?_; rintro e w1 ⟨rfl, hb1⟩; have HB := Lib.hid hb1; clear hb1)
    go_ret
    exact ⟨_, rfl, by rw [HE.out]; exact H.out.later HB.out⟩
  · rw [e2] at ki
    obtain ⟨b, cap, hf, hf1, hf2, hf3, hf4⟩ := Own.form (h := (show Own W0 w (⟨3, 1, .slice a ls.length c, ls.length, ints ls⟩ :: L) from H.out)) (by omega)
    injection hf with hf _ hfc
    subst hf hfc
    have HE := Lib.hid (show (ls.take (k + 1)).filter (fun x => !p x) = ls.take k from by
      rw [filter_take_succI _ _ _ hk, e3]
      rw [List.filter_eq_self.2 fun x hx => by
        obtain ⟨j, hj, rfl⟩ := List.getElem_of_mem hx
        rw [List.length_take] at hj
        rw [List.getElem_take, e4 j (by omega) (by omega)]; rfl]
      simp)
    have hkz : (k : Int) < (ls.length : Int) := by omega
    have hkn : ((k : Int) == -1) = false := beq_eq_false_iff_ne.2 (by omega)
    have Hk := Lib.hid hk
    have HF := Lib.hid (show ls.length ≤ c ∧ c ≤ maxLen from ⟨hf3, hf4⟩)
    have hcz : (ls.length : Int) ≤ (c : Int) ∧ (c : Int) ≤ 9223372036854775807 := by unfold maxLen at hf4; omega
    clear e2 e3 e4 hk hf1 hf2 hf3 hf4
    go_enter Tryz.func32, Tryz.ntmps32
    go_upto_region 4 with (go_at_call 66; refine ki.mono ?_; rintro e w1 ⟨rfl, hb1⟩; have H1 := Lib.hid (H.out.later hb1); clear hb1)
    go_wp2_with fail
    go_loopw [5, 6] (fun s5 s6 wr => ∃ (i j : Nat) (l' : List Int), i < j ∧ j ≤ ls.length ∧ s5 = .int .i64 i ∧ s6 = .int .i64 j ∧ Hid (Own W0 wr (rowI (.slice (some ⟨b, 0, none⟩) l'.length c) l' :: L)) ∧ Hid (l'.length = ls.length ∧ l'.take i = (ls.take j).filter (fun x => !p x) ∧ l'.drop j = ls.drop j)) (fun _ s6 _ => ls.length - (intOf s6).toNat)
    case atStart => exact ⟨k, k + 1, ls, by omega, by have := Hk.out; omega, rfl, by go_num, H1.out, rfl, by rw [HE.out], rfl⟩
    case round =>
      obtain ⟨i, j, l', hij, hj, rfl, rfl, HO, HL⟩ := hrel
      obtain ⟨hl1, hl2, hl3⟩ := HL.out
      have hO : Own W0 wr (⟨3, 1, .slice (some ⟨b, 0, none⟩) ls.length c, ls.length, ints l'⟩ :: L) := by
        have := HO.out
        rw [← hl1]
        exact this
      by_cases hlt : j < ls.length
      · have hjl : j < l'.length := by omega
        have hx : l'[j] = ls[j] := by
          have e1 := List.drop_eq_getElem_cons hjl
          have e2 := List.drop_eq_getElem_cons hlt
          rw [hl3, e2] at e1
          injection e1 with e1 _
          exact e1.symm
        have cj : wr.cell? ⟨b, j, none⟩ = some (.int .i64 ls[j]) := by
          rw [hO.cell j (by omega), ints_at l' j hjl, hx]
        have kc := HP.out wr (.slice (some ⟨b, 0, none⟩) l'.length c) l' HO.out ls[j]
        have HOr := Lib.hid hO
        have hjz : (j : Int) < (ls.length : Int) := by omega
        have hiz : (i : Int) < (ls.length : Int) := by omega
        have HFs := Lib.hid (filter_take_succI (fun x => !p x) ls j hlt)
        have hdr : l'.drop (j + 1) = ls.drop (j + 1) := by
          have e1 := List.drop_eq_getElem_cons hjl
          have e2 := List.drop_eq_getElem_cons hlt
          rw [hl3, e2] at e1
          injection e1 with _ e1
          exact e1.symm
        have HDr := Lib.hid hdr
        have HL1 := Lib.hid hl1
        have HL2 := Lib.hid hl2
        have Hij := Lib.hid hij
        have HSet := Lib.hid (set_splitI l' i ls[j] (by omega))
        clear hO hl1 hl2 hl3 hx hdr
        generalize hxx : ls[j] = x at *
        clear hxx
        have Hxs := Lib.hid (ints_set l' i x)
        cases hpx : p x with
        | true =>
          rw [hpx] at kc HFs
          have HR := Lib.hid (fun w2 (hb : Below wr.heap.size wr w2) => HO.out.later hb)
          have HN := Lib.hid (show l'.length = ls.length ∧ l'.take i = (ls.take (j + 1)).filter (fun x => !p x) ∧ l'.drop (j + 1) = ls.drop (j + 1) from ⟨HL1.out, by rw [HFs.out, HL2.out]; simp, HDr.out⟩)
          clear hpx
          go_wp2_with (go_at_fn g; refine kc.mono ?_; rintro e w2 ⟨rfl, hb2⟩; have HR2 := Lib.hid (HR.out w2 hb2); clear hb2)
          go_roundw
          case rel => exact ⟨i, j + 1, l', by omega, by omega, rfl, by go_num, HR2.out, HN.out⟩
          case measure => simp [intOf]; omega
        | false =>
          rw [hpx] at kc HFs
          have HN := Lib.hid (show (l'.set i x).length = ls.length ∧ (l'.set i x).take (i + 1) = (ls.take (j + 1)).filter (fun x => !p x) ∧ (l'.set i x).drop (j + 1) = ls.drop (j + 1) from ⟨by rw [List.length_set]; exact HL1.out, by rw [HSet.out.1, HFs.out, HL2.out]; simp, by rw [HSet.out.2 _ (by have := Hij.out; omega)]; exact HDr.out⟩)
          clear hpx
          have HR := Lib.hid (fun w2 (hb : Below wr.heap.size wr w2) => HOr.out.later hb)
          go_wp2_with (go_at_fn g; refine kc.mono ?_; rintro e w2 ⟨rfl, hb2⟩; have HR2 := Lib.hid (HR.out w2 hb2); have ci2 := (HR.out w2 hb2).there 0 ls.length (by omega) i (by omega); rw [Nat.zero_add] at ci2; obtain ⟨ci3, fi3⟩ := ci2; obtain ⟨vi, ci4⟩ := Option.isSome_iff_exists.1 ci3; clear hb2 ci3)
          have HR3 : Hid (Own W0 (w2.setCell ⟨b, i, none⟩ (.int .i64 x)) (rowI (.slice (some ⟨b, 0, none⟩) (l'.set i x).length c) (l'.set i x) :: L)) := by
            have h1 := Own.set (h := HR2.out) i (.int .i64 x)
            rw [Hxs.out] at h1
            show Own W0 _ (⟨3, 1, .slice (some ⟨b, 0, none⟩) (l'.set i x).length c, (l'.set i x).length, ints (l'.set i x)⟩ :: L)
            rw [HN.out.1]
            exact h1
          clear ci4 fi3
          go_roundw
          case rel => exact ⟨i + 1, j + 1, l'.set i x, by omega, by omega, by go_num, by go_num, HR3.out, HN.out⟩
          case measure => simp [intOf]; omega
      · obtain rfl : j = ls.length := by omega
        have hfl : (ls.filter fun x => !p x).length = i := by
          rw [List.take_length] at hl2
          rw [← hl2, List.length_take]; omega
        have hft : (ints l').take i = ints (ls.filter fun x => !p x) := by
          rw [List.take_length] at hl2
          rw [← hl2]; simp [ints]
        have hcl : ∀ ty, (Builtin.clear_ #[84] ty #[.slice (some ⟨b, i, none⟩) (ls.length - i) (c - i)]).run Tryz.prog wr = .ok (.tuple #[]) (wr.setCells b i (List.replicate (ls.length - i) (.int .i64 0))) := fun ty =>
          Lib.run_clear_slice wr 84 3 ty (.int .i64 0) Tryz.underlying84 (fun w => zeroIntW w) rfl rfl b i (ls.length - i) (c - i) (by omega) (fun q hq => by
            rw [hO.cell (i + q) (by omega), List.getElem?_eq_getElem (by rw [ints_length]; omega)]; rfl) (fun q hq => hO.free _)
        have h9 : Own W0 (wr.setCells b i (List.replicate (ls.length - i) (.int .i64 0))) (rowI (.slice (some ⟨b, 0, none⟩) i c) (ls.filter fun x => !p x) :: L) := by
          have h1 := row_takeI (hO.setCells (List.replicate (ls.length - i) (.int .i64 0)) i) i (by omega)
          have e1 : (splice (ints l') i (List.replicate (ls.length - i) (.int .i64 0))).take i = ints (ls.filter fun x => !p x) := by
            rw [← hft]
            apply List.ext_getElem?
            intro q
            by_cases hq : q < i
            · rw [List.getElem?_take_of_lt hq, List.getElem?_take_of_lt hq, splice_get _ _ _ _ (by simp [ints]; omega), if_neg (by omega)]
            · rw [List.getElem?_take_eq_none (by omega), List.getElem?_take_eq_none (by omega)]
          rw [e1] at h1
          show Own W0 _ (⟨3, 1, _, (ls.filter fun x => !p x).length, _⟩ :: L)
          rw [hfl]
          exact h1
        have H9 := Lib.hid h9
        have hiz : (i : Int) < (ls.length : Int) := by omega
        have hiN : i < ls.length := hij
        clear hO hl1 hl2 hl3 hfl hft h9 hlt hj
        go_wp2_with fail
        go_ret
        exact ⟨_, rfl, H9.out⟩
end Go.Proofs.YtkhnkidggcjfeaaGreatDoor
end
