/- Texts one behind the other, each in a section of its own: what calls make of memory, step by step. -/
import Derived.Test.YtkhnkidggcjfeaaGreatDoorPackNeedHits17
set_option linter.unusedVariables false
set_option linter.unusedSimpArgs false
set_option maxRecDepth 100000
section
namespace Go.Proofs.YtkhnkidggcjfeaaGreatDoor
open Go.RowKit
open Go.ChangeMaps (setBlock)
def RW (w : World) (r rb : Nat) (m : List (Nm × RunD)) (oi o : Obj) (done left : List (Nm × RunD)) (wr : World) : Prop :=
  wr.heap[r]? = some oi ∧ w.heap[rb]? = some o ∧ IterO keyN oi rb o (runsR m) (runsR left) ∧ (done ++ left).Perm m ∧ Below w.heap.size w wr ∧ w.heap.size ≤ r
theorem RW.start {w w1 : World} {rb : Nat} {m : List (Nm × RunD)} {o : Obj} (h1 : w.heap[rb]? = some o) (h2 : MapO keyN o (runsR m)) (hb : Below w.heap.size w w1) : ∃ oi, (Instr.range 64 (.map (some rb))).run Tryz.prog w1 = .ok (.pointer (some ⟨w1.heap.size, 0, none⟩)) (w1.alloc oi) ∧ RW w w1.heap.size rb m oi o [] m (w1.alloc oi) := by
  obtain ⟨oi, h3, h4⟩ := h2.range und_runs ((hb.block _ (lt_of_heap h1)).trans h1)
  exact ⟨oi, h3, (MapKept.heap_alloc w1 _).1, h1, h4, List.Perm.refl _, hb.alloc hb.size _, hb.size⟩
theorem RW.next {w wr : World} {r rb : Nat} {m : List (Nm × RunD)} {oi o : Obj} {done left : List (Nm × RunD)} (h : RW w r rb m oi o done left wr) :
    (left = [] ∧ ∀ ty, (Instr.next (.pointer (some ⟨r, 0, none⟩)) false ty).run Tryz.prog wr = .ok (.tuple #[.bool false]) wr) ∨
    ∃ (l1 l2 : List (Nm × RunD)) (p : Nm × RunD) (oi' : Obj) (w1 : World), left = l1 ++ p :: l2 ∧ (w1 = wr ∨ w1 = wr.drew) ∧ (∀ ty, (Instr.next (.pointer (some ⟨r, 0, none⟩)) false ty).run Tryz.prog wr = .ok (.tuple #[.bool true, .string (toB p.1), p.2.val]) (setBlock w1 r oi')) ∧
      RW w r rb m oi' o (done ++ [p]) (l1 ++ l2) (setBlock w1 r oi') ∧ p ∈ m ∧
      (∀ u : World, u.heap[r]? = some oi' → u.heap[rb]? = some o → (Instr.entry (.pointer (some ⟨r, 0, none⟩))).run Tryz.prog u = .ok (.tuple #[.string (toB p.1), p.2.val]) u) := by
  obtain ⟨h1, h2, h3, h4, h5, h6⟩ := h
  have hlt := lt_of_heap h2
  have h2' : wr.heap[rb]? = some o := (h5.block _ hlt).trans h2
  rcases h3.next (P := Tryz.prog) 0 h1 h2' with ⟨g1, g2⟩ | ⟨x, y, z, w1, oi', g1, g2, g3, g4, g5⟩
  · left
    have : left = [] := List.map_eq_nil_iff.1 g1
    exact ⟨this, fun ty => g2⟩
  · right
    obtain ⟨l1, p, l2, e1, e2, e3, e4⟩ := map_split _ left x y z g1
    have hb1 : Below w.heap.size w w1 := by rcases g2 with rfl | rfl; exact h5; exact h5.drew
    have hlt1 : r < w1.heap.size := by rcases g2 with rfl | rfl <;> exact lt_of_heap h1
    obtain ⟨s1, s2, s3⟩ := setBlock_heap w1 r oi' hlt1
    refine ⟨l1, l2, p, oi', w1, e1, g2, fun ty => by rw [show (Instr.next (.pointer (some ⟨r, 0, none⟩)) false ty) = (Instr.next (.pointer (some ⟨r, 0, none⟩)) false 0) from rfl, g3, ← e3], ⟨s1, h2, by rw [show runsR (l1 ++ l2) = x ++ z by rw [← e2, ← e4]; simp [runsR]]; exact g4, ?_, below_setG hb1 h6 _, h6⟩, ?_, fun u hu hu2 => by rw [g5 u hu hu2, ← e3]⟩
    · refine List.Perm.trans ?_ h4
      rw [e1]
      simp only [List.append_assoc, List.singleton_append]
      exact (List.perm_middle.symm).append_left done
    · exact h4.subset (by rw [e1]; simp)
theorem RW.entry {w wr : World} {r rb : Nat} {m : List (Nm × RunD)} {oi o : Obj} {done left : List (Nm × RunD)} (h : RW w r rb m oi o done left wr) : wr.heap[r]? = some oi ∧ wr.heap[rb]? = some o := ⟨h.1, (h.2.2.2.2.1.block _ (lt_of_heap h.2.1)).trans h.2.1⟩
theorem RW.left_eq {w wr : World} {r rb : Nat} {m : List (Nm × RunD)} {oi o : Obj} {done left : List (Nm × RunD)} (h : RW w r rb m oi o done left wr) : leftG wr rb r = left.length := by
  obtain ⟨e1, e2⟩ := h.entry
  obtain ⟨es, clock, since, seen, c0, rfl, rfl, _, _, _, _, _, _, h7⟩ := h.2.2.1
  have := congrArg List.length h7
  simp only [leftG, e1, e2]
  simpa [runsR] using this
def IntsAt (w : World) (v : Value) (zs : List Int) : Prop := ∃ b o c, v = .slice (some ⟨b, o, none⟩) zs.length c ∧ zs.length ≤ 1000000 ∧ ∀ j, j < zs.length → w.cell? ⟨b, o + j, none⟩ = some (.int .i64 (zs.getD j 0))
theorem IntsAt.later {w w' : World} {v : Value} {zs : List Int} (h : IntsAt w v zs) (hb : Below w.heap.size w w') : IntsAt w' v zs := by
  obtain ⟨b, o, c, e, hl, hc⟩ := h
  exact ⟨b, o, c, e, hl, fun j hj => (hb.cell (p := ⟨b, o + j, none⟩) (World.block_lt_of_cell? w _ (hc j hj))).trans (hc j hj)⟩
theorem IntsAt.contains {w : World} {v : Value} {zs : List Int} (h : IntsAt w v zs) (x : Int) : Calls Tryz.prog 68 #[v, .int .i64 x] w fun e w' => e = .returned (.bool (zs.contains x)) ∧ w' = w := by
  obtain ⟨b, o, c, rfl, hl, hc⟩ := h
  have := Tryz.slices_Contains_int b o zs.length c zs x w (Nat.le_refl _) (by omega) hc
  rw [List.take_length] at this
  exact this
def selI (zs : List Int) (l : List (Nm × RunD)) : List Nm := (l.filter fun p => zs.contains p.2.state).map (·.1)
theorem selI_snoc (zs : List Int) (l : List (Nm × RunD)) (p : Nm × RunD) : selI zs (l ++ [p]) = selI zs l ++ if zs.contains p.2.state then [p.1] else [] := by
  unfold selI
  rw [List.filter_append, List.map_append]
  congr 1
  cases h : zs.contains p.2.state with
  | true => rw [List.filter_cons, h]; rfl
  | false => rw [List.filter_cons, h]; rfl
def inV (V : MV) (zs : List Int) : List Nm := (V.mr.filter fun p => zs.contains p.2.state).map (·.1)
theorem selI_in (X : VX) (Y : Tab) (M : MS) (zs : List Int) : selI zs M.runs = inV (vw X Y M) zs := by
  unfold selI inV
  show _ = ((M.runs.map fun p => (p.1, p.2.view)).filter _).map (·.1)
  rw [List.filter_map, List.map_map]
  rfl
def InRel (w : World) (rb : Nat) (m : List (Nm × RunD)) (zs : List Int) (r : Nat) (s : Value) (wr : World) : Prop :=
  ∃ oi o done left, RW w r rb m oi o done left wr ∧ Own ⟨w, [(r, oi)]⟩ wr [rowSs s (selI zs done)]
set_option maxHeartbeats 8000000 in
theorem in_in {w0 w : World} {K : Blocks} {L0 : List Rw} {v : Nat} {X : VX} {Y : Tab} {M : MS} (h : MgIn w0 K L0 v X Y M w) (hlen : M.runs.length ≤ 10000) {sv : Value} {zs : List Int} (hz : IntsAt w sv zs) :
    Calls Tryz.prog 38 #[.pointer (some ⟨M.m, 0, none⟩), sv] w fun e w' => ∃ v', e = .returned v' ∧ Own w w' [rowSs v' (sortN (selI zs M.runs))] := by
  obtain ⟨i0, hi, hz0, hz1, hz2⟩ := infoS_ex
  obtain ⟨⟨c0, c1, c2, c3⟩, _⟩ := h.cells
  obtain ⟨o, h1, h2⟩ := h.x
  have hrb := h1.cellK (List.mem_cons_of_mem _ (List.mem_cons_self ..))
  obtain ⟨oi, hrun, hW⟩ := RW.start hrb h2 (Below.refl _ w)
  have HSH := Lib.hid (fun (p : Nm × RunD) (hp : p ∈ M.runs) => (show ∃ a c, p.2.hv = .slice a p.2.files.length c from (h.has p hp).shape h))
  have HW := Lib.hid (show InRel w M.rb M.runs zs w.heap.size (.slice none 0 0) (w.alloc oi) from ⟨oi, o, [], M.runs, hW, ((Own.start w).newB oi).nil 9 1⟩)
  have HZ := Lib.hid hz
  have HN := Lib.hid hlen
  obtain ⟨sb, so, sc, hsv, _, _⟩ := hz
  subst hsv
  generalize hzn : zs.length = zn at *
  clear h h1 h2 hW hlen c0 c1 c3
  have HRB := Lib.hid hrb
  clear hrb
  generalize M.runs = m at *
  generalize M.rb = rb at *
  go_enter Tryz.func38, Tryz.ntmps38
  go_wp2_with fail
  generalize hrr : w.heap.size = r at *
  have HRR := Lib.hid hrr
  clear hrr hrun
  go_loopw [5] (fun s wr => InRel w rb m zs r s wr) (fun _ wr => leftG wr rb r)
  case atStart => exact HW.out
  case round =>
    obtain ⟨oi2, o2, done, left, hW, hO⟩ := hrel
    have hle := hW.left_eq
    have hperm := hW.2.2.2.1
    have hdone : (selI zs done).length ≤ 10000 := by
      have h1 := hperm.length_eq
      have h3 := HN.out
      rw [List.length_append] at h1
      have h4 := List.length_filter_le (fun p : Nm × RunD => zs.contains p.2.state) done
      unfold selI
      rw [List.length_map]
      omega
    rcases hW.next with ⟨rfl, hnx⟩ | ⟨l1, l2, p, oi', w2', rfl, hw1, hnx, hW', hp, hen⟩
    · have hO2 : Own ⟨w, []⟩ wr [rowSs u5 (selI zs done)] := hO.forget (S' := []) (fun m hm => by cases hm)
      have hs := sortS_row hO2 (by omega)
      have hper : sortN (selI zs done) = sortN (selI zs m) := by
        rw [List.append_nil] at hperm
        exact sortN_eq ((hperm.filter _).map _)
      rw [hper] at hs
      obtain ⟨fa, fc, hf, _, _⟩ := Own.sized (h := (show Own ⟨w, []⟩ wr (⟨9, 1, u5, (selI zs done).length, strs (selI zs done)⟩ :: []) from hO2))
      clear hW hle hperm hO hO2 hdone hper
      subst hf
      go_wp2_with (go_at_call 69; refine hs.mono ?_; rintro e w3 ⟨rfl, hO3⟩; have HO3 := Lib.hid hO3; clear hO3)
      go_ret
      exact ⟨_, rfl, HO3.out⟩
    · have hO1 : Own ⟨w, [(r, oi2)]⟩ w2' [rowSs u5 (selI zs done)] := by rcases hw1 with rfl | rfl; exact hO; exact hO.drew
      have hO2 : Own ⟨w, [(r, oi')]⟩ (setBlock w2' r oi') [rowSs u5 (selI zs done)] := by
        have := hO1.setB (List.mem_cons_self ..) oi'
        simpa [upd] using this
      obtain ⟨e1, e2⟩ := hW'.entry
      have hent := hen _ e1 e2
      have hmeas : (l1 ++ l2).length < leftG wr rb r := by rw [hle]; simp
      have hsn := selI_snoc zs done p
      obtain ⟨pa, pc, hps⟩ := HSH.out p hp
      obtain ⟨pn, pst, ppid, phv, ptr, pfs⟩ := p
      dsimp only at hps hsn hnx hent
      subst hps
      generalize hw2 : setBlock w2' r oi' = w2 at *
      obtain ⟨fa, fc, hf, _, _⟩ := Own.sized (h := (show Own ⟨w, [(r, oi')]⟩ w2 (⟨9, 1, u5, (selI zs done).length, strs (selI zs done)⟩ :: []) from hO2))
      have hf' : u5 = .slice fa (selI zs done).length fc := hf
      clear hf
      subst hf'
      have HWn := Lib.hid hW'
      have HO2 := Lib.hid hO2
      have HM := Lib.hid hmeas
      have Hsn := Lib.hid hsn
      unfold RunD.val at hent hnx
      dsimp only at hent hnx
      generalize hpf : pfs.length = pl at *
      have hO3 := HO2.out.alloc (.cells #[.int .i64 pst, .int .i64 ppid, .slice pa pl pc, .int .i64 ptr] 75)
      have hB3 : Below w.heap.size w (w2.alloc (.cells #[.int .i64 pst, .int .i64 ppid, .slice pa pl pc, .int .i64 ptr] 75)) := hO3.below
      have k1 := (HZ.out.later hB3).contains pst
      have hb0 := cell_at (MapKept.heap_alloc w2 (.cells #[.int .i64 pst, .int .i64 ppid, .slice pa pl pc, .int .i64 ptr] 75)).1 0
      have HRW := Lib.hid (fun (W : World) (v4 : Value) (ns : List Nm) (hO4 : Own ⟨w, [(r, oi')]⟩ W [rowSs v4 ns]) (hns : ns = selI zs (done ++ [(pn, ⟨pst, ppid, .slice pa pl pc, ptr, pfs⟩)])) => (show InRel w rb m zs r v4 W ∧ leftG W rb r < leftG wr rb r from by
        have hW4 : RW w r rb m oi' o2 (done ++ [(pn, ⟨pst, ppid, .slice pa pl pc, ptr, pfs⟩)]) (l1 ++ l2) W := ⟨hO4.at (List.mem_cons_self ..), HWn.out.2.1, HWn.out.2.2.1, HWn.out.2.2.2.1, hO4.below, HWn.out.2.2.2.2.2⟩
        exact ⟨⟨oi', o2, _, _, hW4, by rw [← hns]; exact hO4⟩, by rw [hW4.left_eq]; exact HM.out⟩))
      have HO3 := Lib.hid hO3
      have Hll := Lib.hid hdone
      clear hW hle hperm hO hO1 hO2 hW' e1 e2 hmeas hsn hdone hO3 hB3 hw1 hw2 hpf
      generalize hls : selI zs done = ls at *
      have Hls := Lib.hid hls
      clear hls
      generalize hpb : toB pn = pb at *
      have Hpb := Lib.hid hpb
      clear hpb
      cases hct : zs.contains pst with
      | true =>
        rw [hct] at k1
        have HYES := Lib.hid (fun (v4 : Value) (W : World) (hO4 : Own ⟨w, [(r, oi')]⟩ W (⟨9, 1, v4, ls.length + 1, strs ls ++ [.string pb]⟩ :: [])) => HRW.out W v4 (ls ++ [pn]) (by
          show Own _ W (⟨9, 1, v4, (ls ++ [pn]).length, strs (ls ++ [pn])⟩ :: [])
          rw [List.length_append, show strs (ls ++ [pn]) = strs ls ++ [.string pb] from by rw [← Hpb.out]; simp [strs]]
          exact hO4) (by rw [Hsn.out, hct]; rfl))
        have HO4 := Lib.hid (show Own ⟨w, [(r, oi')]⟩ ((w2.alloc (.cells #[.int .i64 pst, .int .i64 ppid, .slice pa pl pc, .int .i64 ptr] 75)).alloc (.cells #[.string pb] 9)) (⟨9, 1, .slice fa ls.length fc, ls.length, strs ls⟩ :: []) from HO3.out.alloc _)
        have Hsrc := Lib.hid (show Src ((w2.alloc (.cells #[.int .i64 pst, .int .i64 ppid, .slice pa pl pc, .int .i64 ptr] 75)).alloc (.cells #[.string pb] 9)) (.slice (some ⟨w2.heap.size + 1, 0, none⟩) 1 1) 1 [.string pb] from by
          have h9 := src_one (w2.alloc (.cells #[.int .i64 pst, .int .i64 ppid, .slice pa pl pc, .int .i64 ptr] 75)) (.string pb) 9 rfl
          rwa [show (w2.alloc (.cells #[.int .i64 pst, .int .i64 ppid, .slice pa pl pc, .int .i64 ptr] 75)).heap.size = w2.heap.size + 1 from by simp] at h9)
        have Hb1 := Lib.hid (show ls.length + 1 ≤ maxLen from by have := Hll.out; unfold maxLen; omega)
        have Hb2 := Lib.hid (show (ls.length + 1) * 16 ≤ 140737488355328 from by have := Hll.out; omega)
        clear hct
        go_wp2_with (first
          | (at_builtin; refine wpList_append_src rfl (.tmp 22) (.tmp 24) 32 rfl (.slice fa ls.length fc) ls.length (strs ls) (.slice (some ⟨w2.heap.size + 1, 0, none⟩) 1 1) 1 [.string pb] rfl rfl HO4.out i0 (.string ⟨#[]⟩) 16 Tryz.underlying32 hi hz0 hz1 hz2 rfl (by decide) Hsrc.out (by simp) Hb1.out Hb2.out ?_)
          | (go_at_call 68; refine k1.mono ?_; rintro e w9 ⟨rfl, rfl⟩))
        intro v4 w4 hO4
        have HR := Lib.hid (HYES.out v4 w4 hO4)
        obtain ⟨a4, c4, hv4, _, _⟩ := Own.sized (h := hO4)
        subst hv4
        clear hO4
        go_wp2_with fail
        go_roundw
        case rel => exact HR.out.1
        case measure => exact HR.out.2
      | false =>
        rw [hct] at k1
        have HR := Lib.hid (HRW.out _ _ ls HO3.out (by rw [Hsn.out, hct]; simp))
        clear hct
        go_wp2_with (go_at_call 68; refine k1.mono ?_; rintro e w9 ⟨rfl, rfl⟩)
        go_roundw
        case rel => exact HR.out.1
        case measure => exact HR.out.2
end Go.Proofs.YtkhnkidggcjfeaaGreatDoor
end
section
namespace Go.Proofs.YtkhnkidggcjfeaaGreatDoor
open Go.RowKit
open Go.ChangeMaps (setBlock)
theorem shortF_of {us : List GU} (hd : (namesU us).Nodup) (hb : ∀ u ∈ us, ∀ f ∈ u.fi, f.length ≤ 1000000) : ShortF us := fun n f hf => by
  by_cases hn : n ∈ namesU us
  · exact hb _ (findU_of hd hn).1 f hf
  · rw [findU_none hn] at hf; cases hf
theorem in_at {w0 w : World} {v mb tb gb N : Nat} {us : List GU} {ord : OrdX} {V : MV} (h : MgAt w0 v mb tb gb us ord N V w) (hN : N ≤ 10000) {sv : Value} {zs : List Int} (hz : IntsAt w sv zs) :
    Calls Tryz.prog 38 #[.pointer (some ⟨mb, 0, none⟩), sv] w fun e w' => ∃ v', e = .returned v' ∧ Own w w' [rowSs v' (sortN (inV V zs))] := by
  obtain ⟨K, L0, X, Y, M, h, rfl, rfl, rfl, rfl, hg, hG⟩ := h
  have hf := hG.few
  have hl : (vw X Y M).mr.length = M.runs.length := by show (M.runs.map _).length = _; rw [List.length_map]
  have := in_in h (by omega) hz
  rw [selI_in X Y M] at this
  exact this
end Go.Proofs.YtkhnkidggcjfeaaGreatDoor
end
section
namespace Go.Proofs.YtkhnkidggcjfeaaGreatDoor
open Go.RowKit
open Go.ChangeMaps (setBlock)
theorem row_takeV {W0 : Base} {w : World} {L : List Rw} {e g n cap : Nat} {xs : List Value} (h : Own W0 w (⟨e, 1, .slice (some ⟨g, 0, none⟩) n cap, n, xs⟩ :: L)) (k : Nat) (hk : k ≤ n) : Own W0 w (⟨e, 1, .slice (some ⟨g, 0, none⟩) k cap, k, xs.take k⟩ :: L) := by
  have hown : w.ownsRow W0.world.heap.size e 1 (.slice (some ⟨g, 0, none⟩) n cap) n xs := h.head
  have hlen := h.len
  have hap := List.pairwise_cons.1 h.apart
  refine ⟨h.below, fun p hp => ?_, List.pairwise_cons.2 ⟨fun q hq => hap.1 q hq, hap.2⟩, h.maps, fun m hm p hp => ?_⟩
  · rcases List.mem_cons.1 hp with rfl | hp
    · refine ⟨by simp at hlen ⊢; omega, ?_⟩
      rcases hown.2 with ⟨hv, hn⟩ | ⟨g', cap', cur, hv, hg, hb, hn, hcap, hsz, htk⟩
      · cases hv
      · refine .inr ⟨g', cap', cur, ?_, hg, hb, by show k ≤ _; omega, hcap, hsz, ?_⟩
        · injection hv with e1 e2 e3
          show Value.slice _ _ _ = Value.slice _ _ _
          rw [e1, e3]
        · show List.take (k * 1) cur.toList = xs.take k
          rw [Nat.mul_one]
          rw [Nat.mul_one] at htk
          have e9 : cur.toList.take k = (cur.toList.take n).take k := by rw [List.take_take]; congr 1; omega
          rw [e9, htk]
    · exact h.rows p (List.mem_cons_of_mem _ hp)
  · rcases List.mem_cons.1 hp with rfl | hp
    · exact h.offmaps m hm (⟨e, 1, .slice (some ⟨g, 0, none⟩) n cap, n, xs⟩ : Rw) (List.mem_cons_self ..)
    · exact h.offmaps m hm p (List.mem_cons_of_mem _ hp)
theorem filter_take_succ (q : Nm → Bool) (ls : List Nm) (j : Nat) (hj : j < ls.length) : (ls.take (j + 1)).filter q = (ls.take j).filter q ++ if q ls[j] then [ls[j]] else [] := by
  rw [List.take_succ_eq_append_getElem hj, List.filter_append]
  cases h : q ls[j] <;> simp [h]
theorem set_split (l : List Nm) (i : Nat) (x : Nm) (hi : i < l.length) : (l.set i x).take (i + 1) = l.take i ++ [x] ∧ ∀ j, i < j → (l.set i x).drop j = l.drop j := by
  constructor
  · rw [List.take_succ_eq_append_getElem (by simpa using hi), List.take_set_of_le (Nat.le_refl i)]
    simp
  · intro j hj
    rw [List.drop_set_of_lt hj]
theorem strs_set (l : List Nm) (i : Nat) (x : Nm) : (strs l).set i (.string (toB x)) = strs (l.set i x) := by
  simp [strs]
set_option maxHeartbeats 8000000 in
theorem delF_row {W0 : Base} {w : World} {L : List Rw} {v : Value} {ls : List Nm} (h : Own W0 w (rowSs v ls :: L)) (hl : ls.length ≤ 1000000) (g : Nat) (lb : Array Value) (p : Nm → Bool) (eg : ∀ args w, (callFunc g args).run Tryz.prog w = .ok (.enter g args) w)
    (hp : ∀ W v' l', Own W0 W (rowSs v' l' :: L) → ∀ x, Calls Tryz.prog g (#[.string (toB x)] ++ lb) W fun e w' => e = .returned (.bool (p x)) ∧ Below W.heap.size W w') :
    Calls Tryz.prog 37 #[v, .func (.func g) #[] lb] w fun e w' => ∃ v', e = .returned v' ∧ Own W0 w' (rowSs v' (ls.filter fun x => !p x) :: L) := by
  have ki := index_lb g lb p eg v ls w h.sts (fun W x _ hb => hp W v ls (h.later hb) x)
  obtain ⟨a, n0, c, hv⟩ := h.sts.shape
  subst hv
  have H := Lib.hid h
  have HP := Lib.hid hp
  have hn0 : n0 = ls.length := by
    obtain ⟨a', c', e', _⟩ := h.sts
    injection e'
  subst hn0
  have hlz : (ls.length : Int) ≤ 1000000 := by omega
  clear h hp
  rcases idxF_cases p ls with ⟨_, e2, e3⟩ | ⟨k, hk, _, e2, e3, e4⟩
  · rw [e2] at ki
    have HE := Lib.hid (show (ls.filter fun x => !p x) = ls from List.filter_eq_self.2 fun x hx => by rw [e3 x hx]; rfl)
    clear e2 e3
    go_enter Tryz.func37, Tryz.ntmps37
    go_wp2_with (go_at_call 49; refine ki.mono ?_; rintro e w1 ⟨rfl, hb1⟩; have HB := Lib.hid hb1; clear hb1)
    go_ret
    exact ⟨_, rfl, by rw [HE.out]; exact H.out.later HB.out⟩
  · rw [e2] at ki
    obtain ⟨b, cap, hf, hf1, hf2, hf3, hf4⟩ := H.out.form (by omega)
    injection hf with hf _ hfc
    subst hf hfc
    have HE := Lib.hid (show (ls.take (k + 1)).filter (fun x => !p x) = ls.take k from by
      rw [filter_take_succ _ _ _ hk, e3]
      rw [List.filter_eq_self.2 fun x hx => by
        obtain ⟨j, hj, rfl⟩ := List.getElem_of_mem hx
        rw [List.length_take] at hj
        rw [List.getElem_take, e4 j (by omega) (by omega)]; rfl]
      simp)
    have hkz : (k : Int) < (ls.length : Int) := by omega
    have hkn : ((k : Int) == -1) = false := beq_eq_false_iff_ne.2 (by omega)
    have Hk := Lib.hid hk
    have HF := Lib.hid (show ls.length ≤ c ∧ c ≤ maxLen from ⟨hf3, hf4⟩)
    have hcz : (ls.length : Int) ≤ (c : Int) ∧ (c : Int) ≤ 9223372036854775807 := by unfold maxLen at hf4; omega
    clear e2 e3 e4 hk hf1 hf2 hf3 hf4
    go_enter Tryz.func37, Tryz.ntmps37
    go_upto_region 4 with (go_at_call 49; refine ki.mono ?_; rintro e w1 ⟨rfl, hb1⟩; have H1 := Lib.hid (H.out.later hb1); clear hb1)
    go_wp2_with fail
    go_loopw [5, 6] (fun s5 s6 wr => ∃ (i j : Nat) (l' : List Nm), i < j ∧ j ≤ ls.length ∧ s5 = .int .i64 i ∧ s6 = .int .i64 j ∧ Hid (Own W0 wr (rowSs (.slice (some ⟨b, 0, none⟩) l'.length c) l' :: L)) ∧ Hid (l'.length = ls.length ∧ l'.take i = (ls.take j).filter (fun x => !p x) ∧ l'.drop j = ls.drop j)) (fun _ s6 _ => ls.length - (intOf s6).toNat)
    case atStart => exact ⟨k, k + 1, ls, by omega, by have := Hk.out; omega, rfl, by go_num, H1.out, rfl, by rw [HE.out], rfl⟩
    case round =>
      obtain ⟨i, j, l', hij, hj, rfl, rfl, HO, HL⟩ := hrel
      obtain ⟨hl1, hl2, hl3⟩ := HL.out
      have hO : Own W0 wr (⟨9, 1, .slice (some ⟨b, 0, none⟩) ls.length c, ls.length, strs l'⟩ :: L) := by
        have := HO.out
        rw [← hl1]
        exact this
      by_cases hlt : j < ls.length
      · have hjl : j < l'.length := by omega
        have hx : l'[j] = ls[j] := by
          have e1 := List.drop_eq_getElem_cons hjl
          have e2 := List.drop_eq_getElem_cons hlt
          rw [hl3, e2] at e1
          injection e1 with e1 _
          exact e1.symm
        have cj : wr.cell? ⟨b, j, none⟩ = some (.string (toB ls[j])) := by
          rw [hO.cell j (by omega), strs_at l' j hjl, hx]
        have kc := HP.out wr (.slice (some ⟨b, 0, none⟩) l'.length c) l' HO.out ls[j]
        have HOr := Lib.hid hO
        have hjz : (j : Int) < (ls.length : Int) := by omega
        have hiz : (i : Int) < (ls.length : Int) := by omega
        have HFs := Lib.hid (filter_take_succ (fun x => !p x) ls j hlt)
        have hdr : l'.drop (j + 1) = ls.drop (j + 1) := by
          have e1 := List.drop_eq_getElem_cons hjl
          have e2 := List.drop_eq_getElem_cons hlt
          rw [hl3, e2] at e1
          injection e1 with _ e1
          exact e1.symm
        have HDr := Lib.hid hdr
        have HL1 := Lib.hid hl1
        have HL2 := Lib.hid hl2
        have Hij := Lib.hid hij
        have HSet := Lib.hid (set_split l' i ls[j] (by omega))
        clear hO hl1 hl2 hl3 hx hdr
        generalize hxx : ls[j] = x at *
        clear hxx
        have Hxs := Lib.hid (strs_set l' i x)
        cases hpx : p x with
        | true =>
          rw [hpx] at kc HFs
          have HR := Lib.hid (fun w2 (hb : Below wr.heap.size wr w2) => HO.out.later hb)
          have HN := Lib.hid (show l'.length = ls.length ∧ l'.take i = (ls.take (j + 1)).filter (fun x => !p x) ∧ l'.drop (j + 1) = ls.drop (j + 1) from ⟨HL1.out, by rw [HFs.out, HL2.out]; simp, HDr.out⟩)
          clear hpx
          generalize toB x = xb at *
          go_wp2_with (go_at_fn g; refine kc.mono ?_; rintro e w2 ⟨rfl, hb2⟩; have HR2 := Lib.hid (HR.out w2 hb2); clear hb2)
          go_roundw
          case rel => exact ⟨i, j + 1, l', by omega, by omega, rfl, by go_num, HR2.out, HN.out⟩
          case measure => simp [intOf]; omega
        | false =>
          rw [hpx] at kc HFs
          have HN := Lib.hid (show (l'.set i x).length = ls.length ∧ (l'.set i x).take (i + 1) = (ls.take (j + 1)).filter (fun x => !p x) ∧ (l'.set i x).drop (j + 1) = ls.drop (j + 1) from ⟨by rw [List.length_set]; exact HL1.out, by rw [HSet.out.1, HFs.out, HL2.out]; simp, by rw [HSet.out.2 _ (by have := Hij.out; omega)]; exact HDr.out⟩)
          clear hpx
          generalize hxb : toB x = xb at *
          have HXB := Lib.hid hxb
          clear hxb
          have HR := Lib.hid (fun w2 (hb : Below wr.heap.size wr w2) => HOr.out.later hb)
          go_wp2_with (go_at_fn g; refine kc.mono ?_; rintro e w2 ⟨rfl, hb2⟩; have HR2 := Lib.hid (HR.out w2 hb2); have ci2 := (HR.out w2 hb2).there 0 ls.length (by omega) i (by omega); rw [Nat.zero_add] at ci2; obtain ⟨ci3, fi3⟩ := ci2; obtain ⟨vi, ci4⟩ := Option.isSome_iff_exists.1 ci3; clear hb2 ci3)
          have HR3 : Hid (Own W0 (w2.setCell ⟨b, i, none⟩ (.string xb)) (rowSs (.slice (some ⟨b, 0, none⟩) (l'.set i x).length c) (l'.set i x) :: L)) := by
            have h1 := HR2.out.set i (.string xb)
            rw [Hxs.out] at h1
            show Own W0 _ (⟨9, 1, .slice (some ⟨b, 0, none⟩) (l'.set i x).length c, (l'.set i x).length, strs (l'.set i x)⟩ :: L)
            rw [HN.out.1]
            exact h1
          clear ci4 fi3
          go_roundw
          case rel => exact ⟨i + 1, j + 1, l'.set i x, by omega, by omega, by go_num, by go_num, HR3.out, HN.out⟩
          case measure => simp [intOf]; omega
      · obtain rfl : j = ls.length := by omega
        have hfl : (ls.filter fun x => !p x).length = i := by
          rw [List.take_length] at hl2
          rw [← hl2, List.length_take]; omega
        have hft : (strs l').take i = strs (ls.filter fun x => !p x) := by
          rw [List.take_length] at hl2
          rw [← hl2]; simp [strs]
        have hcl : ∀ ty, (Builtin.clear_ #[32] ty #[.slice (some ⟨b, i, none⟩) (ls.length - i) (c - i)]).run Tryz.prog wr = .ok (.tuple #[]) (wr.setCells b i (List.replicate (ls.length - i) (.string ⟨#[]⟩))) := fun ty =>
          Lib.run_clear_slice wr 32 9 ty (.string ⟨#[]⟩) Tryz.underlying32 (fun w => by rw [Tryz.zeroValue9]) rfl rfl b i (ls.length - i) (c - i) (by omega) (fun q hq => by
            rw [hO.cell (i + q) (by omega), List.getElem?_eq_getElem (by rw [strs_length]; omega)]; rfl) (fun q hq => hO.free _)
        have h9 : Own W0 (wr.setCells b i (List.replicate (ls.length - i) (.string ⟨#[]⟩))) (rowSs (.slice (some ⟨b, 0, none⟩) i c) (ls.filter fun x => !p x) :: L) := by
          have h1 := row_takeV (hO.setCells (List.replicate (ls.length - i) (.string ⟨#[]⟩)) i) i (by omega)
          have e1 : (splice (strs l') i (List.replicate (ls.length - i) (.string ⟨#[]⟩))).take i = strs (ls.filter fun x => !p x) := by
            rw [← hft]
            apply List.ext_getElem?
            intro q
            by_cases hq : q < i
            · rw [List.getElem?_take_of_lt hq, List.getElem?_take_of_lt hq, splice_get _ _ _ _ (by simp [strs]; omega), if_neg (by omega)]
            · rw [List.getElem?_take_eq_none (by omega), List.getElem?_take_eq_none (by omega)]
          rw [e1] at h1
          show Own W0 _ (⟨9, 1, _, (ls.filter fun x => !p x).length, _⟩ :: L)
          rw [hfl]
          exact h1
        have H9 := Lib.hid h9
        have hiz : (i : Int) < (ls.length : Int) := by omega
        have hiN : i < ls.length := hij
        clear hO hl1 hl2 hl3 hfl hft h9 hlt hj
        go_wp2_with fail
        go_ret
        exact ⟨_, rfl, H9.out⟩
end Go.Proofs.YtkhnkidggcjfeaaGreatDoor
end
section
namespace Go.Proofs.YtkhnkidggcjfeaaGreatDoor
open Go.RowKit
open Go.ChangeMaps (setBlock)
structure NdOk (V : MV) : Prop where
  same : ∀ n, (mapsV V (ofV V n).pid).length = (ofV V n).files.length
  few : ∀ n, (ofV V n).files.length ≤ 1000
  short : ∀ n, ∀ p ∈ (ofV V n).files, p.length ≤ 1000000
def hitV (V : MV) : List Nm := (sortN (inV V [1, 2, 3])).filter (ofN V)
section
variable {w0 w w1 w' : World} {K : Blocks} {L0 : List Rw} {v mb tb gb N : Nat} {us : List GU} {ord : OrdX} {V : MV} {X : VX} {Y : Tab}
theorem fresh_at (h : MgAt w0 v mb tb gb us ord N V w) (hm : Mx w0) (hV : NdOk V) (n : Nm) (b1 b2 : Nat) (h1 : w.cell? ⟨b1, 0, none⟩ = some (.pointer (some ⟨v, 0, none⟩))) (h2 : w.cell? ⟨b2, 0, none⟩ = some (.pointer (some ⟨mb, 0, none⟩))) :
    Calls Tryz.prog 36 #[.string (toB n), .pointer (some ⟨b1, 0, none⟩), .pointer (some ⟨b2, 0, none⟩)] w fun e w' => e = .returned (.bool (!ofN V n)) ∧ Below w.heap.size w w' := by
  have hof := of_at h hm n (hV.same n) (hV.few n) (hV.short n)
  clear h
  generalize ofN V n = q at *
  go_enter Tryz.func36, Tryz.ntmps36
  go_wp2_with fail
  refine hof.mono ?_
  rintro e w2 ⟨rfl, hb⟩
  clear hof
  go_wp2_with fail
  go_ret
  exact ⟨rfl, hb⟩
theorem ints3 (w : World) (x y z : Int) : IntsAt (w.alloc (.cells #[.int .i64 x, .int .i64 y, .int .i64 z] 3)) (.slice (some ⟨w.heap.size, 0, none⟩) 3 3) [x, y, z] :=
  ⟨w.heap.size, 0, 3, rfl, by show 3 ≤ 1000000; decide, fun j hj => by
    have hat := (MapKept.heap_alloc w (.cells #[.int .i64 x, .int .i64 y, .int .i64 z] 3)).1
    match j, hj with
    | 0, _ => exact cell_at hat 0
    | 1, _ => exact cell_at hat 1
    | 2, _ => exact cell_at hat 2
    | n + 3, h => exact absurd h (by simp)⟩
set_option maxHeartbeats 4000000 in
theorem hit_at (h : MgAt w0 v mb tb gb us ord N V w) (hm : Mx w0) (hN : N ≤ 9000) (hV : NdOk V) :
    Calls Tryz.prog 12 #[.pointer (some ⟨v, 0, none⟩), .pointer (some ⟨mb, 0, none⟩)] w fun e w' => ∃ v', e = .returned v' ∧ Own w w' [rowSs v' (hitV V)] := by
  have hO1 := (Own.start w).made 24 1 #[.pointer (some ⟨v, 0, none⟩)] 1 rfl (by unfold maxLen; decide)
  have s1 : w.heap.size + 1 = (w.alloc (.cells #[.pointer (some ⟨v, 0, none⟩)] 24)).heap.size := by simp
  have HO := Lib.hid (hO1.made_at 25 1 #[.pointer (some ⟨mb, 0, none⟩)] 1 (w.heap.size + 1) s1 rfl (by unfold maxLen; decide))
  have HM := Lib.hid (h.later HO.out.below)
  have c1 : ((w.alloc (.cells #[.pointer (some ⟨v, 0, none⟩)] 24)).alloc (.cells #[.pointer (some ⟨mb, 0, none⟩)] 25)).cell? ⟨w.heap.size, 0, none⟩ = some (.pointer (some ⟨v, 0, none⟩)) := Own.cell (h := HO.out.swap) 0 (by decide)
  have c2 : ((w.alloc (.cells #[.pointer (some ⟨v, 0, none⟩)] 24)).alloc (.cells #[.pointer (some ⟨mb, 0, none⟩)] 25)).cell? ⟨w.heap.size + 1, 0, none⟩ = some (.pointer (some ⟨mb, 0, none⟩)) := Own.cell (h := HO.out) 0 (by decide)
  clear h hO1 s1
  go_enter Tryz.func12, Tryz.ntmps12
  go_upto_region 2 with fail
  generalize w.heap.size + 1 = b2 at *
  obtain ⟨b1, hb1⟩ : ∃ b1, w.heap.size = b1 := ⟨_, rfl⟩
  rw [hb1] at HO c1 ⊢
  generalize (w.alloc (.cells #[.pointer (some ⟨v, 0, none⟩)] 24)).alloc (.cells #[.pointer (some ⟨mb, 0, none⟩)] 25) = W at *
  have hbW : Below W.heap.size W (W.alloc (.cells #[.int .i64 1, .int .i64 2, .int .i64 3] 3)) := (Below.refl _ W).alloc (Nat.le_refl _) _
  have hin := in_at (HM.out.later hbW) (by omega) (ints3 W 1 2 3)
  have HB := Lib.hid (HO.out.below)
  have HbW := Lib.hid hbW
  have HC := Lib.hid (And.intro c1 c2)
  clear hbW hb1 c1
  go_wp2_with fail
  refine hin.mono ?_
  rintro e w3 ⟨v3, rfl, hO3⟩
  have hb3 := HbW.out.trans (hO3.below.mono HbW.out.size)
  have hlen : (sortN (inV V [1, 2, 3])).length ≤ 1000000 := by
    have h1 := HM.out.good.few
    unfold inV
    rw [sortN_length, List.length_map]
    have := List.length_filter_le (fun p : Nm × RV => [1, 2, 3].contains p.2.state) V.mr
    omega
  have hdel := delF_row hO3 hlen 36 #[.pointer (some ⟨b1, 0, none⟩), .pointer (some ⟨b2, 0, none⟩)] (fun n => !ofN V n) (fun args w => by rfl) (fun W9 v' l' hO' x => by
    have hb9 : Below W.heap.size W W9 := HbW.out.trans (hO'.below.mono HbW.out.size)
    exact fresh_at (HM.out.later hb9) hm hV x b1 b2 ((hb9.cell (p := ⟨b1, 0, none⟩) (World.block_lt_of_cell? _ _ HC.out.1)).trans HC.out.1) ((hb9.cell (p := ⟨b2, 0, none⟩) (World.block_lt_of_cell? _ _ HC.out.2)).trans HC.out.2))
  have HB3 := Lib.hid (HB.out.trans (HbW.out.mono HB.out.size))
  have he : ((sortN (inV V [1, 2, 3])).filter fun x => !(!ofN V x)) = hitV V := by unfold hitV; simp
  simp only [he] at hdel
  clear hin hO3 hb3 he
  go_wp2_with fail
  refine hdel.mono ?_
  rintro e w4 ⟨v4, rfl, hO4⟩
  have HF := Lib.hid ((Own.of_below HB3.out).join hO4)
  clear hdel hO4
  go_wp2_with fail
  go_ret
  exact ⟨_, rfl, HF.out.only (by simp)⟩
end
end Go.Proofs.YtkhnkidggcjfeaaGreatDoor
end
section
namespace Go.Proofs.YtkhnkidggcjfeaaGreatDoor
open Go.RowKit
open Go.ChangeMaps (setBlock)
def flatU (xs : List UV) : List Value := (xs.map UV.cells).flatten
theorem flatU_at : ∀ (xs : List UV) (i : Nat) (h : i < xs.length), ((flatU xs).drop (i * 8)).take 8 = xs[i].cells := by
  intro xs
  induction xs with
  | nil => intro i h; exact absurd h (Nat.not_lt_zero _)
  | cons x r ih =>
    intro i h
    cases i with
    | zero =>
      show ((flatU (x :: r)).drop 0).take 8 = x.cells
      unfold flatU
      rw [List.drop_zero, List.map_cons, List.flatten_cons]
      exact List.take_left' rfl
    | succ i =>
      have := ih i (by simpa using h)
      have hi : i < r.length := by simpa using h
      show ((flatU (x :: r)).drop ((i + 1) * 8)).take 8 = r[i].cells
      rw [← this]
      unfold flatU
      rw [List.map_cons, List.flatten_cons, show (i + 1) * 8 = i * 8 + 8 from by omega, List.drop_append, List.drop_eq_nil_of_le (by show 8 ≤ _; omega), List.nil_append]
      rfl
theorem uarg_of {W0 : Base} {w : World} {L : List Rw} {xs : List UV} {us : List GU} {v : Value} (h : Own W0 w (⟨63, 8, v, us.length, flatU xs⟩ :: L)) (hu : Units w xs us) (hz : ∀ x ∈ xs, x.nilOk) : UArg w v us := by
  obtain ⟨a, c, rfl, _, _⟩ := h.sized
  refine ⟨a, c, xs, rfl, hu, fun i hi => ?_⟩
  have hpos : 0 < us.length := by rw [← hu.len]; omega
  obtain ⟨g, cap, e, _⟩ := h.form hpos
  injection e with e1 _ e3
  subst e1 e3
  refine ⟨⟨g, 0, rfl, ?_⟩, hz _ (List.getElem_mem hi)⟩
  have := h.range (i * 8) 8
  rw [flatU_at xs i hi] at this
  simpa using this
/-! ### The example -/
def gA : GU := ⟨[97], [], [], [], [[98]], [], [], 0⟩
def gB : GU := ⟨[98], [], [], [], [], [], [], 0⟩
def gC : GU := ⟨[99], [], [], [[98]], [], [], [[97]], 0⟩
def usA : List GU := [gA, gB, gC]
def hA : GU := ⟨[97], [], [[98]], [], [], [], [], 0⟩
def hB : GU := ⟨[98], [], [[97]], [], [], [], [], 0⟩
def usB : List GU := [hA, hB]
end Go.Proofs.YtkhnkidggcjfeaaGreatDoor
end
section
namespace Go.Proofs.YtkhnkidggcjfeaaGreatDoor
open Go.RowKit
open Go.ChangeMaps (setBlock)
theorem bnd_small {u : GU} (h : u.fi.length ≤ 100 ∧ u.af.length ≤ 100 ∧ u.be.length ≤ 100 ∧ u.re.length ≤ 100 ∧ u.wa.length ≤ 100 ∧ u.pa.length ≤ 100) : Bnd u := ⟨by omega, by omega, by omega, by omega, by omega, by omega⟩
end Go.Proofs.YtkhnkidggcjfeaaGreatDoor
end
section
namespace Go.Proofs.YtkhnkidggcjfeaaGreatDoor
open Go.RowKit
open Go.ChangeMaps (setBlock)
def MgPre (w0 : World) (v mb tb g : Nat) (us : List GU) (ord : OrdX) (N : Nat) (V : MV) (w : World) : Prop :=
  ∃ K L0 X Y M, MgIn w0 K L0 v X Y M w ∧ vw X Y M = V ∧ M.m = mb ∧ Y.tb = tb ∧ GKx w0 K L0 g us ord ∧ Gd N V
section
variable {w0 w w1 w' : World} {K : Blocks} {L0 : List Rw} {v mb tb gb g N : Nat} {us us' : List GU} {ord : OrdX} {ord' : List Nm} {V : MV} {X : VX} {Y : Tab}
theorem set_at16 (h : MgPre w0 v mb tb g us ord N V w) : Calls Tryz.prog 20 #[.pointer (some ⟨mb, 0, none⟩), .pointer (some ⟨g, 0, none⟩)] w fun e w' => e = .returned (.tuple #[]) ∧ MgAt w0 v mb tb g us ord N V w' := by
  obtain ⟨K, L0, X, Y, M, h1, rfl, rfl, rfl, h6, h7⟩ := h
  obtain ⟨⟨c0, c1, c2, c3⟩, hf⟩ := h1.cells
  have f1 := hf 1
  have HP := Lib.hid (show MgAt w0 v M.m Y.tb g us ord N (vw X Y M) (w.setCell ⟨M.m, 1, none⟩ (.pointer (some ⟨g, 0, none⟩))) from ⟨K, L0, X, Y, _, h1.setG g, rfl, rfl, rfl, rfl, h6, h7⟩)
  clear h1 h6 h7 c0 c2 c3 hf
  go_enter Tryz.func20, Tryz.ntmps20
  go_wp2_with fail
  go_end0
  exact ⟨rfl, HP.out⟩
theorem arg_none (w : World) : UArg w (.slice none 0 0) [] := ⟨none, 0, [], rfl, .nil, fun i hi => absurd hi (Nat.not_lt_zero _)⟩
def V0 (X : VX) (Y : Tab) : MV := ⟨X.E, X.held, Y.last, Y.runs.map fun p => (p.1, vwP p.2), [], [], budX X⟩
end
end Go.Proofs.YtkhnkidggcjfeaaGreatDoor
end
section
namespace Go.Proofs.YtkhnkidggcjfeaaGreatDoor
open Go.RowKit
open Go.ChangeMaps (setBlock)
def ts5 : List (Int × Nm × Nm) := [(2, [47, 97], []), (2, [47, 98], []), (2, [47, 99], []), (2, [47, 100], []), (2, [47, 101], [])]
theorem ts5_ok : TsOk ts5 := ⟨by decide, by decide, by decide, by decide⟩
def VN0 : MV := ⟨E0 3000, [], 0, [], [], [], (0, 0, 399, 3)⟩
def EN : Et := ⟨3000, 7, [(1, ⟨true, [(toB [97], 2), (toB [98], 3), (toB [99], 4), (toB [100], 5), (toB [101], 6)], [], 0⟩), (2, ⟨false, [], [], 1⟩), (3, ⟨false, [], [], 1⟩), (4, ⟨false, [], [], 1⟩), (5, ⟨false, [], [], 1⟩), (6, ⟨false, [], [], 1⟩)]⟩
theorem do_N : DoE (E0 3000) (xsT ts5) = (0, EN) := by rfl
def VN : MV := doV VN0 ts5
theorem VN_E : VN.E = EN := by rfl
def gdV (V : MV) : Prop := V.held = [] ∧ V.runs = [] ∧ V.mr = [] ∧ V.evs = [] ∧ V.last = 0
theorem gd_new {V : MV} (h : gdV V) : Gd 0 V := by
  obtain ⟨h1, h2, h3, h4, h5⟩ := h
  refine ⟨⟨by show (V.held.map _).Nodup; rw [h1]; exact List.nodup_nil, fun i => by show 0 ≤ heldN V.held i ∧ heldN V.held i ≤ _; rw [h1]; exact ⟨Int.le_refl 0, Int.le_refl 0⟩⟩, by rw [h2]; exact List.nodup_nil, by rw [h5]; exact ⟨Int.le_refl 0, Int.le_refl 0⟩, (fun p hp => by rw [h2] at hp; cases hp), by rw [h4]; exact Nat.le_refl 0, by rw [h3]; exact Nat.le_refl 0, (fun p hp => by rw [h3] at hp; cases hp), by rw [h3]; exact List.nodup_nil, by rw [h2]; exact Nat.le_refl 0, (fun p hp => by rw [h3] at hp; cases hp)⟩
def uN (n : Nm) (fs : List Nm) : GU := ⟨n, fs, [], [], [], [], [], 0⟩
def usN : List GU := [uN [117] [[47, 97]], uN [118] [[47, 98], [47, 99]], uN [119] [[47, 97], [47, 99], [47, 100]], uN [120] [[47, 100]]]
theorem errN : errU usN = 0 := by decide
theorem shortN : ShortF usN := shortF_of (by decide) (by decide)
def MgR (w0 : World) (v mb tb g : Nat) (us : List GU) (ord : OrdX) (N : Nat) (V : MV) (r : Rw) (w : World) : Prop :=
  ∃ K L0 X Y M, MgIn w0 K L0 v X Y M w ∧ vw X Y M = V ∧ M.m = mb ∧ Y.tb = tb ∧ GKx w0 K L0 g us ord ∧ Gd N V ∧ r ∈ L0
section
variable {w0 w w1 w' : World} {K : Blocks} {L0 : List Rw} {v mb tb gb g N : Nat} {us us' : List GU} {ord : OrdX} {ord' : List Nm} {V : MV} {X : VX} {Y : Tab} {r : Rw}
theorem MgR.graft {S : Blocks} {L : List Rw} (h : MgR w0 v mb tb gb us ord N V r w) (k : Own ⟨w, S⟩ w1 L) (hg : GIn S L g us' ord') : MgR w0 v mb tb g us' ord' N V r w1 := by
  obtain ⟨K, L0, X, Y, M, h1, h2, h3, h4, h6, h7, h8⟩ := h
  exact ⟨S ++ K, L ++ L0, X, Y, M, h1.join k, h2, h3, h4, (hg.gk.mono (fun m hm => List.mem_append_left _ hm) (fun r hr => List.mem_append_left _ hr)).x, h7, List.mem_append_right _ h8⟩
theorem MgR.later (h : MgR w0 v mb tb g us ord N V r w) (hb : Below w.heap.size w w') : MgR w0 v mb tb g us ord N V r w' := by
  obtain ⟨K, L0, X, Y, M, h1, h2⟩ := h
  exact ⟨K, L0, X, Y, M, h1.later hb, h2⟩
set_option maxHeartbeats 2000000 in
theorem mdo_row (hm : Mx w0) {a : Option Addr} {cp : Nat} {ts : List (Int × Nm × Nm)} (h : MgR w0 v mb tb gb us ord N V (rowO (.slice a ts.length cp) (opsT ts)) w) (ht : TsOk ts) (cap : Nat) (hE : (DoE V.E (xsT ts)).1 = 0) (hB : V.bud.1 + ts.length ≤ 100000) (hl : lenT ts ≤ 4096) (hf : V.bud.2.1 + roomM (lenT ts) ≤ V.bud.2.2.1) (hst : V.bud.2.2.2 ≤ 1000000000) :
    Calls Tryz.prog 11 #[.pointer (some ⟨v, 0, none⟩), .slice a ts.length cap] w fun e w' => e = .returned (.int .i64 0) ∧ MgPre w0 v mb tb gb us ord N (doV V ts) w' := by
  obtain ⟨K, L0, X, Y, M, h1, rfl, rfl, rfl, hg, hG, hrow⟩ := h
  have hlen : (opsT ts).length = ts.length := by simp
  refine (h1.call (α := Dk) (P := fun _ e => e = .returned (.int .i64 0)) (X' := fun D' => doneS X (opsT ts) (xsT ts) D') (Y' := fun _ => Y) (fun _ => rfl) fun K' hV => ?_).mono fun e w' hh => ?_
  · refine VT.volE (X' := fun D' => doneS X (opsT ts) (xsT ts) D') (P := fun e => e = .returned (.int .i64 0)) hV fun S R L T hI hL => ?_
    have hr : rowO (.slice a (opsT ts).length cp) (opsT ts) ∈ L := by
      rw [hlen]
      exact hL _ hrow
    have := vdo_all hI hm (ops := opsT ts) (xs := xsT ts) (Ops.rowD hr (by simp) (opsT_in ht.size)) cap (fun o ho => by
      obtain ⟨t, h1, rfl⟩ := List.mem_map.1 ho
      exact ht.kind t h1) (fun o ho => by
      obtain ⟨t, h1, rfl⟩ := List.mem_map.1 ho
      have := ht.size t h1
      exact ⟨by show (toB t.2.1).size ≤ _; rw [toB_size]; omega, by show (toB t.2.2).size ≤ _; rw [toB_size]; omega⟩) (fun x hx => by
      obtain ⟨t, h1, rfl⟩ := List.mem_map.1 hx
      exact Nat.zero_le _) (fun o ho => by
      obtain ⟨t, h1, rfl⟩ := List.mem_map.1 ho
      rcases ht.two t h1 with h2 | h2 | h2
      · exact .inl h2
      · exact .inr (.inl h2)
      · refine .inr (.inr ?_)
        show toB t.2.2 = _
        rw [h2]) (by rw [hlen]; exact ht.pos) (by rw [hlen]; exact hB) hE (by rw [recO_len]; exact hl) (by rw [recO_len]; exact hf) hst
    rw [hlen] at this
    exact this
  · obtain ⟨D', h2, h3⟩ := hh
    refine ⟨h2, _, _, _, _, _, h3, ?_, rfl, rfl, hg, hG.do_ ts⟩
    show (⟨sweepE (DoE X.E (xsT ts)).2 X.held, X.held, Y.last, _, _, _, (X.B + (xsT ts).length, X.used + roomM (recO (pks (opsT ts) (xsT ts))).length, X.h, X.st + 100)⟩ : MV) = _
    rw [recO_len, List.length_map]
    rfl
set_option maxHeartbeats 2000000 in
theorem mnew_row (h : VT w0 K L0 v X Y w) (hG : Gd N (V0 X Y)) {r : Rw} (hr : r ∈ L0) : Calls Tryz.prog 17 #[.pointer (some ⟨Y.tb, 0, none⟩)] w fun e w' => ∃ mb g, e = .returned (.pointer (some ⟨mb, 0, none⟩)) ∧ MgR w0 v mb Y.tb g [] ([] : List Nm) N (V0 X Y) r w' ∧ w'.cell? ⟨mb, 0, none⟩ = some (.pointer (some ⟨Y.tb, 0, none⟩)) := by
  have hnew := new_any2 (arg_none w) (Nat.zero_le _) (fun n hn => nomatch hn) (fun u hu => nomatch hu)
  have HV := Lib.hid h.vtx
  have HG := Lib.hid hG
  generalize htb : Y.tb = tb at *
  have Htb := Lib.hid htb
  clear h hG htb
  go_enter Tryz.func17, Tryz.ntmps17
  go_wp2_with fail
  refine hnew.mono ?_
  rintro e w1 ⟨gv, nm, rfl, _, _, hgood, _⟩
  obtain ⟨g, S, L, rfl, hO, hgi⟩ := hgood (by decide)
  have he : errU [] = 0 := by decide
  rw [he]
  have hV1 := HV.out.join hO
  have hV2 := hV1.newK (.map #[] 0)
  have hV3 := (hV2.newK (.cells (mgCells tb ⟨w1.heap.size + 1, g, w1.heap.size, .slice none 0 0, [], []⟩) 67)).nilrow 129 2
  have hs1 : (w1.alloc (.map #[] 0)).heap.size = w1.heap.size + 1 := by simp
  rw [hs1] at hV3
  obtain ⟨LL, hOK, _⟩ := hV1.ownK
  have hin : MgIn w0 (S ++ K) (L ++ L0) v X Y ⟨w1.heap.size + 1, g, w1.heap.size, .slice none 0 0, [], []⟩ ((w1.alloc (.map #[] 0)).alloc (.cells (mgCells tb ⟨w1.heap.size + 1, g, w1.heap.size, .slice none 0 0, [], []⟩) 67)) := by
    refine ⟨⟨.map #[] 0, by rw [Htb.out]; exact hV3, MapO.empty _⟩, by show w1.heap.size + 1 ≠ w1.heap.size; omega, fun b x hb => ?_, fun p hp => nomatch hp⟩
    have := (hOK.atLt hb).2
    exact ⟨by show b ≠ w1.heap.size + 1; omega, by show b ≠ w1.heap.size; omega⟩
  have HC := Lib.hid (cell_at hin.block 0)
  have HP := Lib.hid (show MgR w0 v (w1.heap.size + 1) tb g [] ([] : List Nm) N (V0 X Y) r ((w1.alloc (.map #[] 0)).alloc (.cells (mgCells tb ⟨w1.heap.size + 1, g, w1.heap.size, .slice none 0 0, [], []⟩) 67)) from ⟨_, _, X, Y, _, hin, rfl, rfl, Htb.out, (hgi.gk.mono (fun m hm => List.mem_append_left _ hm) (fun r hr => List.mem_append_left _ hr)).x, HG.out, List.mem_append_right _ hr⟩)
  rw [Htb.out] at HC
  have hmk : ∀ w : World, (Instr.makeMap 64 none).run Tryz.prog w = .ok (.map (some w.heap.size)) (w.alloc (.map #[] 0)) := fun w => rfl
  clear hnew hgood hO hgi he hV1 hV2 hV3 hs1 hOK hin
  unfold mgCells at HP HC
  dsimp only at HP HC
  go_wp2_with fail
  go_ret
  refine ⟨_, _, ?_, HP.out, HC.out⟩
  simp
end
end Go.Proofs.YtkhnkidggcjfeaaGreatDoor
end
section
namespace Go.Proofs.YtkhnkidggcjfeaaGreatDoor
open Go.RowKit
open Go.ChangeMaps (setBlock)
abbrev sA : Value := .string ⟨#[47, 97]⟩
abbrev sB : Value := .string ⟨#[47, 98]⟩
abbrev sC : Value := .string ⟨#[47, 99]⟩
abbrev sD : Value := .string ⟨#[47, 100]⟩
abbrev un (n : ByteArray) (b k : Nat) : List Value := [.string n, .slice (some ⟨b, 0, none⟩) k k, .slice none 0 0, .slice none 0 0, .slice none 0 0, .slice none 0 0, .slice none 0 0, .int .i64 0]
abbrev W5 (w : World) : World := ((((w.alloc (.cells #[sA] 9)).alloc (.cells #[sB, sC] 9)).alloc (.cells #[sA, sC, sD] 9)).alloc (.cells #[sD] 9)).alloc (.cells #[.string ⟨#[117]⟩, .slice (some ⟨w.heap.size, 0, none⟩) 1 1, .slice none 0 0, .slice none 0 0, .slice none 0 0, .slice none 0 0, .slice none 0 0, .int .i64 0, .string ⟨#[118]⟩, .slice (some ⟨w.heap.size + 1, 0, none⟩) 2 2, .slice none 0 0, .slice none 0 0, .slice none 0 0, .slice none 0 0, .slice none 0 0, .int .i64 0, .string ⟨#[119]⟩, .slice (some ⟨w.heap.size + 1 + 1, 0, none⟩) 3 3, .slice none 0 0, .slice none 0 0, .slice none 0 0, .slice none 0 0, .slice none 0 0, .int .i64 0, .string ⟨#[120]⟩, .slice (some ⟨w.heap.size + 1 + 1 + 1, 0, none⟩) 1 1, .slice none 0 0, .slice none 0 0, .slice none 0 0, .slice none 0 0, .slice none 0 0, .int .i64 0] 63)
theorem argN (w : World) : UArg (W5 w) (.slice (some ⟨w.heap.size + 1 + 1 + 1 + 1, 0, none⟩) 4 4) usN ∧ Below w.heap.size w (W5 w) := by
  have O1 := (Own.start w).made_at 9 1 #[sA] 1 w.heap.size rfl rfl (by unfold maxLen; decide)
  have O2 := O1.made_at 9 1 #[sB, sC] 2 (w.heap.size + 1) (by simp) rfl (by unfold maxLen; decide)
  have O3 := O2.made_at 9 1 #[sA, sC, sD] 3 (w.heap.size + 1 + 1) (by simp) rfl (by unfold maxLen; decide)
  have O4 := O3.made_at 9 1 #[sD] 1 (w.heap.size + 1 + 1 + 1) (by simp) rfl (by unfold maxLen; decide)
  have O5 := O4.made_at 63 8 #[.string ⟨#[117]⟩, .slice (some ⟨w.heap.size, 0, none⟩) 1 1, .slice none 0 0, .slice none 0 0, .slice none 0 0, .slice none 0 0, .slice none 0 0, .int .i64 0, .string ⟨#[118]⟩, .slice (some ⟨w.heap.size + 1, 0, none⟩) 2 2, .slice none 0 0, .slice none 0 0, .slice none 0 0, .slice none 0 0, .slice none 0 0, .int .i64 0, .string ⟨#[119]⟩, .slice (some ⟨w.heap.size + 1 + 1, 0, none⟩) 3 3, .slice none 0 0, .slice none 0 0, .slice none 0 0, .slice none 0 0, .slice none 0 0, .int .i64 0, .string ⟨#[120]⟩, .slice (some ⟨w.heap.size + 1 + 1 + 1, 0, none⟩) 1 1, .slice none 0 0, .slice none 0 0, .slice none 0 0, .slice none 0 0, .slice none 0 0, .int .i64 0] 4 (w.heap.size + 1 + 1 + 1 + 1) (by simp) rfl (by unfold maxLen; decide)
  refine ⟨uarg_of (xs := [⟨[117], .slice (some ⟨w.heap.size, 0, none⟩) 1 1, .slice none 0 0, .slice none 0 0, .slice none 0 0, .slice none 0 0, .slice none 0 0, 0⟩, ⟨[118], .slice (some ⟨w.heap.size + 1, 0, none⟩) 2 2, .slice none 0 0, .slice none 0 0, .slice none 0 0, .slice none 0 0, .slice none 0 0, 0⟩, ⟨[119], .slice (some ⟨w.heap.size + 1 + 1, 0, none⟩) 3 3, .slice none 0 0, .slice none 0 0, .slice none 0 0, .slice none 0 0, .slice none 0 0, 0⟩, ⟨[120], .slice (some ⟨w.heap.size + 1 + 1 + 1, 0, none⟩) 1 1, .slice none 0 0, .slice none 0 0, .slice none 0 0, .slice none 0 0, .slice none 0 0, 0⟩]) O5 ?_ (fun x hx => by
    simp only [List.mem_cons, List.not_mem_nil, or_false] at hx
    rcases hx with rfl | rfl | rfl | rfl <;> (intro v hv; simp only [List.mem_cons, List.not_mem_nil, or_false] at hv; rcases hv with rfl | rfl | rfl | rfl | rfl | rfl <;> first | exact .inl rfl | exact .inr ⟨_, _, _, rfl⟩)), O5.below⟩
  have n0 := sts_nil (W5 w)
  have s1 : Sts (W5 w) (.slice (some ⟨w.heap.size, 0, none⟩) 1 1) [[47, 97]] := (O5.only (r := rowSs (.slice (some ⟨w.heap.size, 0, none⟩) 1 1) [[47, 97]]) (List.mem_cons_of_mem _ (List.mem_cons_of_mem _ (List.mem_cons_of_mem _ (List.mem_cons_of_mem _ (List.mem_cons_self ..)))))).sts
  have s2 : Sts (W5 w) (.slice (some ⟨w.heap.size + 1, 0, none⟩) 2 2) [[47, 98], [47, 99]] := (O5.only (r := rowSs (.slice (some ⟨w.heap.size + 1, 0, none⟩) 2 2) [[47, 98], [47, 99]]) (List.mem_cons_of_mem _ (List.mem_cons_of_mem _ (List.mem_cons_of_mem _ (List.mem_cons_self ..))))).sts
  have s3 : Sts (W5 w) (.slice (some ⟨w.heap.size + 1 + 1, 0, none⟩) 3 3) [[47, 97], [47, 99], [47, 100]] := (O5.only (r := rowSs (.slice (some ⟨w.heap.size + 1 + 1, 0, none⟩) 3 3) [[47, 97], [47, 99], [47, 100]]) (List.mem_cons_of_mem _ (List.mem_cons_of_mem _ (List.mem_cons_self ..)))).sts
  have s4 : Sts (W5 w) (.slice (some ⟨w.heap.size + 1 + 1 + 1, 0, none⟩) 1 1) [[47, 100]] := (O5.only (r := rowSs (.slice (some ⟨w.heap.size + 1 + 1 + 1, 0, none⟩) 1 1) [[47, 100]]) (List.mem_cons_of_mem _ (List.mem_cons_self ..))).sts
  exact .cons ⟨rfl, rfl, s1, n0, n0, n0, n0, n0⟩ (.cons ⟨rfl, rfl, s2, n0, n0, n0, n0, n0⟩ (.cons ⟨rfl, rfl, s3, n0, n0, n0, n0, n0⟩ (.cons ⟨rfl, rfl, s4, n0, n0, n0, n0, n0⟩ .nil)))
theorem newGN {w0 w : World} {v mb tb gb N : Nat} {us : List GU} {ord : OrdX} {V : MV} {r : Rw} (h : MgR w0 v mb tb gb us ord N V r w) : Calls Tryz.prog 19 #[.slice (some ⟨w.heap.size + 1 + 1 + 1 + 1, 0, none⟩) 4 4] (W5 w) fun e w' => ∃ g nb, e = .returned (.tuple #[.pointer (some ⟨g, 0, none⟩), .int .i64 0, .string nb]) ∧ MgR w0 v mb tb g usN (ordU usN) N V r w' := by
  obtain ⟨h1, h2⟩ := argN w
  refine (new_any2 h1 (by decide) (by decide) (fun u hu => bnd_small (by
    simp only [usN, List.mem_cons, List.not_mem_nil, or_false] at hu
    rcases hu with rfl | rfl | rfl | rfl <;> decide))).mono ?_
  rintro e w' ⟨gv, nm, rfl, _, _, hg, _⟩
  obtain ⟨g, S, L, rfl, hO, hgi⟩ := hg errN
  rw [errN]
  exact ⟨g, _, rfl, (h.later h2).graft hO hgi⟩
def nms5 : List Nm := [[97], [98], [99], [100], [101]]
theorem names17 (w : World) : Calls Tryz.prog 7 #[] w fun e w' => ∃ g, e = .returned (.slice (some ⟨g, 0, none⟩) 5 5) ∧ Own w w' [rowSs (.slice (some ⟨g, 0, none⟩) 5 5) nms5] := by
  have hO := (Own.start w).made 9 1 #[.string ⟨#[97]⟩, .string ⟨#[98]⟩, .string ⟨#[99]⟩, .string ⟨#[100]⟩, .string ⟨#[101]⟩] 5 rfl (by unfold maxLen; decide)
  go_enter Tryz.func7, Tryz.ntmps7
  go_wp2_with fail
  go_ret
  exact ⟨_, rfl, hO⟩
def OpsRel17 (w2 : World) (s4 s32 : Value) (L : List Rw) (wr : World) : Prop := ∃ k : Nat, k ≤ 5 ∧ s32 = .int .i64 k ∧ Own w2 wr (rowO s4 (opsT (ts5.take k)) :: L)
theorem nms5_at (k : Nat) (hk : k < 5) : ∃ n : Nm, (∃ h : k < nms5.length, nms5[k] = n) ∧ n.length ≤ 100 ∧ opsT (ts5.take (k + 1)) = opsT (ts5.take k) ++ [⟨2, ⟨#[47]⟩ ++ toB n, ⟨#[]⟩, none, 0, 0⟩] := by
  match k, hk with
  | 0, _ => exact ⟨[97], ⟨by decide, rfl⟩, by decide, rfl⟩
  | 1, _ => exact ⟨[98], ⟨by decide, rfl⟩, by decide, rfl⟩
  | 2, _ => exact ⟨[99], ⟨by decide, rfl⟩, by decide, rfl⟩
  | 3, _ => exact ⟨[100], ⟨by decide, rfl⟩, by decide, rfl⟩
  | 4, _ => exact ⟨[101], ⟨by decide, rfl⟩, by decide, rfl⟩
  | n + 5, h => omega
set_option maxHeartbeats 16000000 in
theorem open17 (w : World) (hm : Mx w) : Calls Tryz.prog 6 #[] w fun e w' => ∃ v mb tb g, e = .returned (.tuple #[.pointer (some ⟨v, 0, none⟩), .pointer (some ⟨mb, 0, none⟩)]) ∧ MgAt w v mb tb g usN (ordU usN) 0 VN w' := by
  obtain ⟨inf, Hi0, Hi1, Hi2, Hi3⟩ := info_op3
  have hnew := new_pos w w [] 800 (Own.start w) (by decide) (by decide)
  have HM := Lib.hid hm
  clear hm
  go_enter Tryz.func6, Tryz.ntmps6
  go_wp2_with fail
  refine hnew.mono ?_
  rintro e w1 ⟨d, rfl, hA1⟩
  have hop := vopen_new (w0 := w) (S := []) (L := []) hA1 (by decide) (by decide) 3000 (by decide)
  clear hnew hA1
  go_wp2_with fail
  refine hop.mono ?_
  rintro e w2 ⟨v, t, l, hmb, D, S1, R1, T1, rfl, h1, _, _⟩
  have c0 : w2.cell? ⟨v, 0, none⟩ = some (.pointer (some ⟨t, 0, none⟩)) := h1.atV.1.1
  have H1 := Lib.hid h1
  have hO := (Own.start w2).made 40 4 #[] 0 rfl (by unfold maxLen; decide)
  have HO := Lib.hid hO
  clear hop h1 hO
  go_upto_region 5 with fail
  obtain ⟨b0, hb0⟩ : ∃ b0, w2.heap.size = b0 := ⟨_, rfl⟩
  rw [hb0] at HO ⊢
  generalize w2.alloc (.cells #[] 40) = w3 at *
  have hnm := names17 w3
  clear hb0 c0
  go_wp2_with fail
  refine hnm.mono ?_
  rintro e w4 ⟨nb, rfl, hO4⟩
  have HR := Lib.hid (show OpsRel17 w2 (.slice (some ⟨b0, 0, none⟩) 0 0) (.int .i64 0) [rowSs (.slice (some ⟨nb, 0, none⟩) 5 5) nms5] w4 from ⟨0, by decide, rfl, (HO.out.join hO4).swap⟩)
  clear hnm hO4 HO
  go_wp2_with fail
  go_loopw [4, 32] (fun s4 s32 wr => OpsRel17 w2 s4 s32 [rowSs (.slice (some ⟨nb, 0, none⟩) 5 5) nms5] wr) (fun _ s32 _ => 5 - (intOf s32).toNat)
  case atStart => exact HR.out
  case round =>
    obtain ⟨k, hk, rfl, hO⟩ := hrel
    clear HR
    have h4 : (opsT (ts5.take k)).length = k := by rw [List.length_map, List.length_take]; show min k 5 = k; omega
    obtain ⟨a4, c4, hv4, _, _⟩ := Own.sized (h := (show Own _ wr (⟨40, 4, u4, (opsT (ts5.take k)).length, ((opsT (ts5.take k)).map OpD.cells).flatten⟩ :: [rowSs (.slice (some ⟨nb, 0, none⟩) 5 5) nms5]) from hO))
    subst hv4
    by_cases hlt : k < 5
    · have hki : (k : Int) < 5 := by omega
      have hk0 : (0 : Int) ≤ (k : Int) := by omega
      obtain ⟨nm, ⟨hkl, hat⟩, hnl, ht⟩ := nms5_at k hlt
      have ck : wr.cell? ⟨nb, k, none⟩ = some (.string (toB nm)) := by
        have hst := (hO.only (r := rowSs (.slice (some ⟨nb, 0, none⟩) 5 5) nms5) (by simp)).sts
        obtain ⟨a', c', e, _, _, g⟩ := hst
        obtain ⟨b, o, g1, _, g3⟩ := g (by decide)
        injection e with e1 e2 e3
        rw [g1] at e1
        injection e1 with e1
        injection e1 with e4 e5
        have := g3 k hkl
        rw [← e4, ← e5, Nat.zero_add, hat] at this
        exact this
      have hsz : (toB nm).size ≤ 100 := by rw [toB_size]; exact hnl
      have HT := Lib.hid ht
      clear ht hat hnl
      generalize toB nm = xb at *
      have H4 := Lib.hid h4
      have HA := Lib.hid (show Own _ (wr.alloc (.cells #[.int .i64 2, .string (⟨#[47]⟩ ++ xb), .string ⟨#[]⟩, .slice none 0 0] 40)) (⟨40, 4, .slice a4 (opsT (ts5.take k)).length c4, (opsT (ts5.take k)).length, ((opsT (ts5.take k)).map OpD.cells).flatten⟩ :: [rowSs (.slice (some ⟨nb, 0, none⟩) 5 5) nms5]) from hO.alloc _)
      have Hsrc := Lib.hid (lit_src wr (OpD.cells ⟨2, ⟨#[47]⟩ ++ xb, ⟨#[]⟩, none, 0, 0⟩) 40 (op_one _) wr.heap.size rfl)
      have Hb1 := Lib.hid (show (opsT (ts5.take k)).length + 1 ≤ maxLen from by rw [h4]; unfold maxLen; omega)
      have Hb2 := Lib.hid (show ((opsT (ts5.take k)).length + 1) * 64 ≤ 140737488355328 from by rw [h4]; omega)
      have HK := Lib.hid hlt
      clear hO h4 hlt
      generalize hol : (opsT (ts5.take k)).length = ol at *
      generalize hfl : ((opsT (ts5.take k)).map OpD.cells).flatten = fl at *
      have Hol := Lib.hid hol
      have Hfl := Lib.hid hfl
      clear hol hfl
      go_wp2_with (at_builtin; refine wpList_append_src rfl (.tmp 36) (.tmp 40) 55 rfl (.slice a4 ol c4) ol fl (.slice (some ⟨wr.heap.size, 0, none⟩) 1 1) 1 (OpD.cells ⟨2, ⟨#[47]⟩ ++ xb, ⟨#[]⟩, none, 0, 0⟩) rfl rfl HA.out inf zOp 64 Tryz.underlying55 Hi0 Hi1 Hi2 Hi3 zOp_size (by decide) Hsrc.out rfl Hb1.out Hb2.out ?_)
      intro v5 w5 hO5
      obtain ⟨a5, c5, hv5, _, _⟩ := Own.sized (h := hO5)
      subst hv5
      have HN := Lib.hid (show Own w2 w5 (rowO (.slice a5 (ol + 1) c5) (opsT (ts5.take (k + 1))) :: [rowSs (.slice (some ⟨nb, 0, none⟩) 5 5) nms5]) from by
        rw [HT.out]
        unfold rowO
        rw [List.length_append, List.map_append, List.flatten_append, Hol.out, Hfl.out]
        simpa using hO5)
      clear hO5 ck
      go_wp2_with fail
      go_roundw
      case rel => exact ⟨k + 1, by have := HK.out; omega, by go_num, HN.out⟩
      case measure => have := HK.out; simp [intOf]; omega
    · obtain rfl : k = 5 := by omega
      rw [show ts5.take 5 = ts5 from rfl] at hO
      have h1 := H1.out.join (show Own w2 wr [rowO (.slice a4 5 c4) (opsT ts5)] from hO.only (List.mem_cons_self ..))
      rw [show (opsT (ts5.take 5)).length = 5 from rfl]
      have hpn := pnew_any (L0 := [rowO (.slice a4 5 c4) (opsT ts5)]) (show VolAt w wr [] [rowO (.slice a4 5 c4) (opsT ts5)] v _ from ⟨S1, R1, _, T1, h1, (fun x hx => List.mem_append_left _ hx), fun b x hb => by cases hb⟩)
      unfold filesV at hpn
      clear H1 h1 hO h4
      go_wp2_with fail
      refine hpn.mono ?_
      rintro e w7 ⟨Y, rfl, hl, hr, h7⟩
      have hV0 : V0 (newX t d l hmb 3000 D 800) Y = VN0 := by
        unfold V0
        rw [hl, hr]
        rfl
      have hmn := mnew_row h7 (N := 0) (by rw [hV0]; exact gd_new ⟨rfl, rfl, rfl, rfl, rfl⟩) (List.mem_singleton.2 rfl)
      rw [hV0] at hmn
      generalize Y.tb = tb at *
      clear hpn h7 hV0 hl hr
      go_wp2_with fail
      refine hmn.mono ?_
      rintro e w8 ⟨mb, g0, rfl, h8, c8⟩
      have hgn := newGN h8
      clear hmn h8 c8
      go_wp2_with fail
      refine hgn.mono ?_
      rintro e w9 ⟨g, nb9, rfl, h9⟩
      have hdo := mdo_row HM.out h9 ts5_ok c4 (by rw [show VN0.E = E0 3000 from rfl, do_N]; first | done | rfl) (by decide) (by decide) (by decide) (by decide)
      clear hgn h9
      go_wp2_with fail
      refine hdo.mono ?_
      rintro e w10 ⟨rfl, h10⟩
      have c10 : w10.cell? ⟨mb, 0, none⟩ = some (.pointer (some ⟨tb, 0, none⟩)) := by
        obtain ⟨K, L0, X, Y, M, k1, _, rfl, rfl, _⟩ := h10
        exact k1.cells.1.1
      have hset := set_at16 h10
      clear hdo h10
      go_wp2_with fail
      refine hset.mono ?_
      rintro e w11 ⟨rfl, h11⟩
      have H11 := Lib.hid h11
      clear hset h11
      go_wp2_with fail
      go_ret2
      exact ⟨v, mb, tb, g, rfl, H11.out⟩
end Go.Proofs.YtkhnkidggcjfeaaGreatDoor
end
section
namespace Go.Proofs.YtkhnkidggcjfeaaGreatDoor
open Go.RowKit
open Go.ChangeMaps (setBlock)
theorem ndok_of {V : MV} (h0 : look V.runs 0 = none) (h : ∀ p ∈ V.mr, (mapsV V p.2.pid).length = p.2.files.length ∧ p.2.files.length ≤ 1000 ∧ ∀ f ∈ p.2.files, f.length ≤ 1000000) : NdOk V := by
  have key : ∀ n, (mapsV V (ofV V n).pid).length = (ofV V n).files.length ∧ (ofV V n).files.length ≤ 1000 ∧ ∀ f ∈ (ofV V n).files, f.length ≤ 1000000 := fun n => by
    unfold ofV
    cases hl : look V.mr n with
    | none =>
      refine ⟨?_, Nat.zero_le _, fun f hf => nomatch hf⟩
      show (mapsV V 0).length = 0
      unfold mapsV
      rw [h0]; rfl
    | some r => exact h _ (look_mem hl)
  exact ⟨fun n => (key n).1, fun n => (key n).2.1, fun n => (key n).2.2⟩
def tsC : List (Int × Nm × Nm) := [(2, [47, 110, 101, 119], []), (5, [47, 110, 101, 119], [47, 99])]
theorem tsC_ok : TsOk tsC := ⟨by decide, by decide, by decide, by decide⟩
def VA1 : MV := (startV usN VN [117]).2
def VA2 : MV := (startV usN VA1 [118]).2
def VA3 : MV := doV VA2 tsC
theorem va1 : startV usN VN [117] = (0, VA1) := by rfl
theorem va2 : startV usN VA1 [118] = (0, VA2) := by rfl
theorem va3 : (DoE VA2.E (xsT tsC)).1 = 0 := by rfl
theorem nd2 : NdOk VA2 := ndok_of (by rfl) (by decide)
theorem nd3 : NdOk VA3 := ndok_of (by rfl) (by decide)
theorem of3 : ofN VA3 [117] = false ∧ ofN VA3 [118] = true ∧ ofN VA3 [120] = false := ⟨by rfl, by rfl, by rfl⟩
theorem st3 : staleE VA3.E [47, 99] 4 = true ∧ staleE VA3.E [47, 97] 2 = false := ⟨by rfl, by rfl⟩
theorem hit2 : hitV VA2 = [] := by rfl
theorem hit3 : hitV VA3 = [[118]] := by rfl
end Go.Proofs.YtkhnkidggcjfeaaGreatDoor
end
section
namespace Go.Proofs.YtkhnkidggcjfeaaGreatDoor
open Go.RowKit
open Go.ChangeMaps (setBlock)
theorem row_first {W0 : Base} {w : World} {v : Value} {n : Nm} {L : List Rw} (h : Own W0 w (rowSs v [n] :: L)) : ∃ g c, v = .slice (some ⟨g, 0, none⟩) 1 c ∧ 1 ≤ c ∧ w.cell? ⟨g, 0, none⟩ = some (.string (toB n)) := by
  have h' : Own W0 w (⟨9, 1, v, 1, [.string (toB n)]⟩ :: L) := h
  obtain ⟨g, cap, e, _, _, hc, _⟩ := Own.form (h := h') (by decide)
  subst e
  exact ⟨g, cap, rfl, hc, Own.cell (h := h') 0 (by decide)⟩
theorem ops2 (w : World) (p q : Nm) : Own w (w.alloc (.cells #[.int .i64 2, .string (toB p), .string ⟨#[]⟩, .slice none 0 0, .int .i64 5, .string (toB p), .string (toB q), .slice none 0 0] 40)) [rowO (.slice (some ⟨w.heap.size, 0, none⟩) 2 2) (opsT [(2, p, []), (5, p, q)])] :=
  (Own.start w).made 40 4 #[.int .i64 2, .string (toB p), .string ⟨#[]⟩, .slice none 0 0, .int .i64 5, .string (toB p), .string (toB q), .slice none 0 0] 2 rfl (by unfold maxLen; decide)
set_option maxHeartbeats 16000000 in
theorem alive17 (w : World) (hm : Mx w) : Calls Tryz.prog 5 #[] w fun e w' => e = .returned (.bool true) ∧ Below w.heap.size w w' := by
  have hop := open17 w hm
  have HM := Lib.hid hm
  clear hm
  go_enter Tryz.func5, Tryz.ntmps5
  go_wp2_with fail
  refine hop.mono ?_
  rintro e w1 ⟨v, mb, tb, g, rfl, h1⟩
  have k1 : Calls Tryz.prog 8 #[.pointer (some ⟨mb, 0, none⟩), .string ⟨#[117]⟩] w1 fun e w' => e = .returned (.int .i64 0) ∧ MgAt w v mb tb g usN (ordU usN) 2 VA1 w' := by
    have := start_at h1 HM.out (by decide) shortN [117] (by decide)
    rw [va1] at this
    exact this
  clear hop h1
  go_wp2_with fail
  refine k1.mono ?_
  rintro e w2 ⟨rfl, h2⟩
  have k2 : Calls Tryz.prog 8 #[.pointer (some ⟨mb, 0, none⟩), .string ⟨#[118]⟩] w2 fun e w' => e = .returned (.int .i64 0) ∧ MgAt w v mb tb g usN (ordU usN) 4 VA2 w' := by
    have := start_at h2 HM.out (by decide) shortN [118] (by decide)
    rw [va2] at this
    exact this
  clear k1 h2
  go_wp2_with fail
  refine k2.mono ?_
  rintro e w3 ⟨rfl, h3⟩
  have k3 := hit_at h3 HM.out (by decide) nd2
  rw [hit2] at k3
  have H3 := Lib.hid h3
  clear k2 h3
  go_wp2_with fail
  refine k3.mono ?_
  rintro e w4 ⟨v4, rfl, hO4⟩
  obtain ⟨a4, c4, hv4, _, _⟩ := Own.sized (h := (show Own w3 w4 (⟨9, 1, v4, 0, []⟩ :: []) from hO4))
  subst hv4
  have h4 := H3.out.later hO4.below
  have k4 : Calls Tryz.prog 11 #[.pointer (some ⟨v, 0, none⟩), .slice (some ⟨w4.heap.size, 0, none⟩) 2 2] (w4.alloc (.cells #[.int .i64 2, .string ⟨#[47, 110, 101, 119]⟩, .string ⟨#[]⟩, .slice none 0 0, .int .i64 5, .string ⟨#[47, 110, 101, 119]⟩, .string ⟨#[47, 99]⟩, .slice none 0 0] 40)) fun e w' => e = .returned (.int .i64 0) ∧ MgAt w v mb tb g usN (ordU usN) 4 VA3 w' :=
    mdo_at h4 HM.out (ts := tsC) (ops2 w4 [47, 110, 101, 119] [47, 99]) tsC_ok 2 va3 (by decide) (by decide) (by decide) (by decide)
  clear k3 hO4 h4 H3
  go_wp2_with fail
  refine k4.mono ?_
  rintro e w5 ⟨rfl, h5⟩
  have k5 := hit_at h5 HM.out (by decide) nd3
  rw [hit3] at k5
  have H5 := Lib.hid h5
  clear k4 h5
  go_wp2_with fail
  refine k5.mono ?_
  rintro e w6 ⟨v6, rfl, hO6⟩
  have h6 := H5.out.later hO6.below
  obtain ⟨g6, c6, hv6, hc6, hcell⟩ := row_first hO6
  have hcell : w6.cell? ⟨g6, 0, none⟩ = some (.string ⟨#[118]⟩) := hcell
  subst hv6
  have k6 : Calls Tryz.prog 13 #[.pointer (some ⟨v, 0, none⟩), .pointer (some ⟨mb, 0, none⟩), .string ⟨#[118]⟩] w6 fun e w' => e = .returned (.bool true) ∧ Below w6.heap.size w6 w' := by
    have := of_at h6 HM.out [118] (nd3.same _) (nd3.few _) (nd3.short _)
    rw [of3.2.1] at this
    exact this
  have H6 := Lib.hid h6
  clear k5 hO6 h6 H5
  go_wp2_with fail
  refine k6.mono ?_
  rintro e w7 ⟨rfl, hb7⟩
  have h7 := H6.out.later hb7
  have k7 : Calls Tryz.prog 13 #[.pointer (some ⟨v, 0, none⟩), .pointer (some ⟨mb, 0, none⟩), .string ⟨#[120]⟩] w7 fun e w' => e = .returned (.bool false) ∧ Below w7.heap.size w7 w' := by
    have := of_at h7 HM.out [120] (nd3.same _) (nd3.few _) (nd3.short _)
    rw [of3.2.2] at this
    exact this
  have H7 := Lib.hid h7
  clear k6 hb7 h7 H6 hcell
  go_wp2_with fail
  refine k7.mono ?_
  rintro e w8 ⟨rfl, hb8⟩
  have h8 := H7.out.later hb8
  have k8 : Calls Tryz.prog 14 #[.pointer (some ⟨v, 0, none⟩), .string ⟨#[47, 99]⟩, .int .i64 4] w8 fun e w' => e = .returned (.bool true) ∧ Below w8.heap.size w8 w' := by
    have := stale_at h8 HM.out [47, 99] (by decide) 4
    rw [st3.1] at this
    exact this
  have H8 := Lib.hid h8
  clear k7 hb8 h8 H7
  go_wp2_with fail
  refine k8.mono ?_
  rintro e w9 ⟨rfl, hb9⟩
  have h9 := H8.out.later hb9
  have k9 : Calls Tryz.prog 14 #[.pointer (some ⟨v, 0, none⟩), .string ⟨#[47, 97]⟩, .int .i64 2] w9 fun e w' => e = .returned (.bool false) ∧ Below w9.heap.size w9 w' := by
    have := stale_at h9 HM.out [47, 97] (by decide) 2
    rw [st3.2] at this
    exact this
  have H9 := Lib.hid h9
  clear k8 hb9 h9 H8
  go_wp2_with fail
  refine k9.mono ?_
  rintro e w10 ⟨rfl, hb10⟩
  have HF := Lib.hid (H9.out.later hb10).below
  clear k9 hb10 H9
  go_wp2_with fail
  go_ret
  exact ⟨rfl, HF.out⟩
end Go.Proofs.YtkhnkidggcjfeaaGreatDoor
end
section
namespace Go.Proofs.YtkhnkidggcjfeaaGreatDoor
open Go.RowKit
open Go.ChangeMaps (setBlock)
abbrev Q4 : Type := Bool × Bool × Bool × Bool
def bq (q : Q4) : Nat → Bool
  | 0 => q.1
  | 1 => q.2.1
  | 2 => q.2.2.1
  | _ => q.2.2.2
def nm4 : Nat → Nm
  | 0 => [117]
  | 1 => [118]
  | 2 => [119]
  | _ => [120]
def tsL : List (Int × Nm × Nm) := [(4, [47, 97], [47, 111, 108, 100]), (2, [47, 110, 101, 119], []), (5, [47, 110, 101, 119], [47, 97])]
def tsB : List (Int × Nm × Nm) := [(5, [47, 111, 108, 100], [47, 97])]
def VS (q : Q4) : Nat → MV
  | 0 => VN
  | k + 1 => if bq q k then (startV usN (VS q k) (nm4 k)).2 else VS q k
def VD (q : Q4) : MV := doV (VS q 4) tsL
def VR (q : Q4) : Nat → MV
  | 0 => VD q
  | k + 1 => if bq q k then VR q k else (startV usN (VR q k) (nm4 k)).2
def VB (q : Q4) (back : Bool) : MV := if back then doV (VR q 4) tsB else VR q 4
def ndB (V : MV) : Bool := (look V.runs 0).isNone && V.mr.all fun p => (mapsV V p.2.pid).length == p.2.files.length && decide (p.2.files.length ≤ 1000) && p.2.files.all fun f => decide (f.length ≤ 1000000)
def budB (V : MV) (ts : List (Int × Nm × Nm)) : Bool := decide ((DoE V.E (xsT ts)).1 = 0) && decide (V.bud.1 + ts.length ≤ 100000) && decide (lenT ts ≤ 4096) && decide (V.bud.2.1 + roomM (lenT ts) ≤ V.bud.2.2.1) && decide (V.bud.2.2.2 ≤ 1000000000)
def chkS (q : Q4) (k : Nat) : Bool := !bq q k || decide ((startV usN (VS q k) (nm4 k)).1 = 0)
def chkR (q : Q4) (k : Nat) : Bool := ndB (VR q k) && (bq q k || (!ofN (VR q k) (nm4 k) && decide ((startV usN (VR q k) (nm4 k)).1 = 0)))
def chkB (q : Q4) (back : Bool) (k : Nat) : Bool := ofN (VB q back) (nm4 k) == ((k == 0 || k == 2) && (bq q k != back))
def chk (q : Q4) : Bool :=
  chkS q 0 && chkS q 1 && chkS q 2 && chkS q 3 && ndB (VS q 4) && (hitV (VS q 4)).isEmpty && budB (VS q 4) tsL &&
  (chkR q 0 && chkR q 1 && chkR q 2 && chkR q 3) && budB (VR q 4) tsB && ndB (VB q true) && ndB (VB q false) &&
  (chkB q true 0 && chkB q true 1 && chkB q true 2 && chkB q true 3) && (chkB q false 0 && chkB q false 1 && chkB q false 2 && chkB q false 3)
end Go.Proofs.YtkhnkidggcjfeaaGreatDoor
end
section
namespace Go.Proofs.YtkhnkidggcjfeaaGreatDoor
open Go.RowKit
open Go.ChangeMaps (setBlock)
theorem VTX.turnAny {w0 w : World} {K : Blocks} {L0 rs : List Rw} {v b : Nat} {X : VX} {Y : Tab} {x : Obj} (h : VTX w0 K L0 v X Y rs w) (hb0 : (b, x) ∈ K) (y : Obj) : VTX w0 (upd K b y) L0 v X Y rs (setBlock w b y) := by
  obtain ⟨S, R, L, T, h0, h1, h2, h3, h4, h5⟩ := h
  obtain ⟨hb, hb2, hb3⟩ := h5 b x hb0
  have hO := h0.setB hb y
  refine ⟨upd S b y, R, L, T, hO, h1.base hO.under fun c z hz hc => upd_other (b := b) hz (fun e => hb2 (by rw [← e]; exact hc)) _, h2.mono (fun c z hc hz => upd_other (b := b) hz (fun e => hb3 (by rw [← e]; exact hc)) _) (fun _ hx => hx), h3, h4, fun c z hc => ?_⟩
  obtain ⟨m1, hm1, e⟩ := List.mem_map.1 hc
  split at e
  · injection e with e1 e2
    rw [← e1, ← e2]
    exact ⟨upd_same hb y, hb2, hb3⟩
  · rename_i hnb
    rw [e] at hm1
    obtain ⟨q1, q2, q3⟩ := h5 c z hm1
    exact ⟨upd_other q1 (fun e2 => hnb (by rw [e]; exact e2)) _, q2, q3⟩
section
variable {w0 w w1 : World} {v mb tb gb N : Nat} {us : List GU} {ord : OrdX} {V : MV} {S : Blocks} {L : List Rw}
theorem MgAt.push (h : MgAt w0 v mb tb gb us ord N V w) (k : Own ⟨w, S⟩ w1 L) : MgAt w0 v mb tb gb us ⟨ord.ord, L ++ ord.ex, S ++ ord.bl⟩ N V w1 := by
  obtain ⟨K, L0, X, Y, M, h1, h2, h3, h4, h5, ⟨K1, g1, g2, g3, g4⟩, h7⟩ := h
  refine ⟨S ++ K, L ++ L0, X, Y, M, h1.join k, h2, h3, h4, h5, ⟨K1, fun m hm => List.mem_append_right _ (g1 m hm), g2.mono (fun _ h => h) (fun r hr => List.mem_append_right _ hr), fun r hr => ?_, fun m hm => ?_⟩, h7⟩
  · rcases List.mem_append.1 hr with hr | hr
    · exact List.mem_append_left _ hr
    · exact List.mem_append_right _ (g3 r hr)
  · rcases List.mem_append.1 hm with hm | hm
    · refine ⟨List.mem_append_left _ hm, fun m' hm' e => ?_⟩
      obtain ⟨o, k1, _⟩ := h1.x
      obtain ⟨LL, hO, _⟩ := k1.ownK
      have a1 := (hO.atLt (b := m'.1) (o := m'.2) (List.mem_cons_of_mem _ (List.mem_cons_of_mem _ (g1 m' hm')))).2
      have a2 : w.heap.size ≤ m.1 := (k.maps _ hm).1
      omega
    · exact ⟨List.mem_append_right _ (g4 m hm).1, (g4 m hm).2⟩
theorem MgAt.block (h : MgAt w0 v mb tb gb us ord N V w) {b : Nat} {x : Obj} (hb : (b, x) ∈ ord.bl) : w.heap[b]? = some x := by
  obtain ⟨K, L0, X, Y, M, h1, h2, h3, h4, h5, ⟨K1, g1, g2, g3, g4⟩, h7⟩ := h
  obtain ⟨o, k1, _⟩ := h1.x
  obtain ⟨LL, hO, _⟩ := k1.ownK
  exact hO.at (List.mem_cons_of_mem _ (List.mem_cons_of_mem _ (g4 _ hb).1))
theorem MgAt.turnB (h : MgAt w0 v mb tb gb us ord N V w) {b : Nat} {x : Obj} (hb : (b, x) ∈ ord.bl) (y : Obj) : MgAt w0 v mb tb gb us ⟨ord.ord, ord.ex, upd ord.bl b y⟩ N V (setBlock w b y) := by
  obtain ⟨K, L0, X, Y, M, h1, h2, h3, h4, h5, ⟨K1, g1, g2, g3, g4⟩, h7⟩ := h
  obtain ⟨hbK, hoff⟩ := g4 _ hb
  have hne := h1.off b x hbK
  have hin : MgIn w0 (upd K b y) L0 v X Y M (setBlock w b y) := by
    obtain ⟨o, k1, k2⟩ := h1.x
    refine ⟨⟨o, ?_, k2⟩, h1.ne, fun c z hc => ?_, h1.has⟩
    · have := k1.turnAny (b := b) (x := x) (List.mem_cons_of_mem _ (List.mem_cons_of_mem _ hbK)) y
      unfold upd at this
      rw [List.map_cons, List.map_cons] at this
      simp only [Ne.symm hne.1, Ne.symm hne.2, if_false] at this
      exact this
    · obtain ⟨m1, hm1, e⟩ := List.mem_map.1 hc
      split at e
      · injection e with e1 e2
        rw [← e1]; exact hne
      · rw [e] at hm1; exact h1.off c z hm1
  refine ⟨upd K b y, L0, X, Y, M, hin, h2, h3, h4, h5, ⟨K1, fun m hm => upd_other (g1 m hm) (hoff m hm) y, g2, g3, fun m hm => ?_⟩, h7⟩
  obtain ⟨m1, hm1, e⟩ := List.mem_map.1 hm
  split at e
  · rw [← e]
    exact ⟨upd_same hbK y, fun m' hm' => hoff m' hm'⟩
  · rename_i hnb
    rw [← e]
    exact ⟨upd_other (g4 m1 hm1).1 hnb y, (g4 m1 hm1).2⟩
end
def all4 : List Nm := [[117], [118], [119], [120]]
def btq (x : Int) (k : Nat) : Bool := x / 2 ^ k % 2 == 1
def qx (x : Int) : Q4 := (btq x 0, btq x 1, btq x 2, btq x 3)
end Go.Proofs.YtkhnkidggcjfeaaGreatDoor
end
