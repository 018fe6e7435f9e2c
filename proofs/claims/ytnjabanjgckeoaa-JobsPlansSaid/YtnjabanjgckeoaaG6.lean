/- Going through a graph's units; ahead. -/
import Derived.Test.YtnjabanjgckeoaaG5
namespace Go.Proofs.Ytnjabanjgckeoaa
open Go.RowKit
open Go.ChangeMaps (setBlock)
set_option linter.unusedVariables false
set_option linter.unusedSimpArgs false
set_option maxRecDepth 100000

theorem below_setG {B : Nat} {a w : World} (h : Below B a w) {r : Nat} (hr : B ≤ r) (o : Obj) : Below B a (setBlock w r o) :=
  h.trans ⟨rfl, rfl, rfl, by simp [setBlock], fun i hi => by
    have : r ≠ i := by omega
    simp [setBlock, this]⟩
/-- Going through units by the iterator at r, where what lay in w's blocks is as it was. -/
def GW (w : World) (r bu : Nat) (xs : List UV) (oi o : Obj) (done left : List UV) (wr : World) : Prop :=
  wr.heap[r]? = some oi ∧ w.heap[bu]? = some o ∧ IterO keyN oi bu o (entsU xs) (entsU left) ∧ (done ++ left).Perm xs ∧ Below w.heap.size w wr ∧ w.heap.size ≤ r
theorem GW.start {w w1 : World} {g bu : Nat} {xs : List UV} {us : List GU} (h : UsAt w g bu xs us) (hb : Below w.heap.size w w1) : ∃ oi o, (Instr.range 46 (.map (some bu))).run Try.prog w1 = .ok (.pointer (some ⟨w1.heap.size, 0, none⟩)) (w1.alloc oi) ∧ GW w w1.heap.size bu xs oi o [] xs (w1.alloc oi) := by
  obtain ⟨o, h1, h2⟩ := h.map
  obtain ⟨oi, h3, h4⟩ := h2.range und_us ((hb.block _ (lt_of_heap h1)).trans h1)
  exact ⟨oi, o, h3, (MapKept.heap_alloc w1 _).1, h1, h4, List.Perm.refl _, hb.alloc hb.size _, hb.size⟩
theorem GW.next {w wr : World} {r bu : Nat} {xs : List UV} {oi o : Obj} {done left : List UV} (h : GW w r bu xs oi o done left wr) :
    (left = [] ∧ ∀ ty, (Instr.next (.pointer (some ⟨r, 0, none⟩)) false ty).run Try.prog wr = .ok (.tuple #[.bool false]) wr) ∨
    ∃ (l1 l2 : List UV) (p : UV) (oi' : Obj) (w1 : World), left = l1 ++ p :: l2 ∧ (w1 = wr ∨ w1 = wr.drew) ∧ (∀ ty, (Instr.next (.pointer (some ⟨r, 0, none⟩)) false ty).run Try.prog wr = .ok (.tuple #[.bool true, .string (toB p.name), p.val]) (setBlock w1 r oi')) ∧
      GW w r bu xs oi' o (done ++ [p]) (l1 ++ l2) (setBlock w1 r oi') ∧ p ∈ xs ∧
      (∀ u : World, u.heap[r]? = some oi' → u.heap[bu]? = some o → (Instr.entry (.pointer (some ⟨r, 0, none⟩))).run Try.prog u = .ok (.tuple #[.string (toB p.name), p.val]) u) := by
  obtain ⟨h1, h2, h3, h4, h5, h6⟩ := h
  have hlt := lt_of_heap h2
  have h2' : wr.heap[bu]? = some o := (h5.block _ hlt).trans h2
  rcases h3.next (P := Try.prog) 0 h1 h2' with ⟨g1, g2⟩ | ⟨x, y, z, w1, oi', g1, g2, g3, g4, g5⟩
  · left
    have : left = [] := List.map_eq_nil_iff.1 g1
    exact ⟨this, fun ty => g2⟩
  · right
    obtain ⟨l1, p, l2, e1, e2, e3, e4⟩ := map_split _ left x y z g1
    have hb1 : Below w.heap.size w w1 := by rcases g2 with rfl | rfl; exact h5; exact h5.drew
    have hlt1 : r < w1.heap.size := by rcases g2 with rfl | rfl <;> exact lt_of_heap h1
    obtain ⟨s1, s2, s3⟩ := setBlock_heap w1 r oi' hlt1
    refine ⟨l1, l2, p, oi', w1, e1, g2, fun ty => by rw [show (Instr.next (.pointer (some ⟨r, 0, none⟩)) false ty) = (Instr.next (.pointer (some ⟨r, 0, none⟩)) false 0) from rfl, g3, ← e3], ⟨s1, h2, by rw [show entsU (l1 ++ l2) = x ++ z by rw [← e2, ← e4]; simp [entsU]]; exact g4, ?_, below_setG hb1 h6 _, h6⟩, ?_, fun u hu hu2 => by rw [g5 u hu hu2, ← e3]⟩
    · refine List.Perm.trans ?_ h4
      rw [e1]
      simp only [List.append_assoc, List.singleton_append]
      exact (List.perm_middle.symm).append_left done
    · exact h4.subset (by rw [e1]; simp)
theorem GW.entry {w wr : World} {r bu : Nat} {xs : List UV} {oi o : Obj} {done left : List UV} (h : GW w r bu xs oi o done left wr) : wr.heap[r]? = some oi ∧ wr.heap[bu]? = some o := ⟨h.1, (h.2.2.2.2.1.block _ (lt_of_heap h.2.1)).trans h.2.1⟩
def leftG (w : World) (b r : Nat) : Nat := match w.heap[b]?, w.heap[r]? with
  | some (.map es _), some (.mapIter _ _ seen _) => (leftOf es seen).size
  | _, _ => 0
theorem GW.left_eq {w wr : World} {r bu : Nat} {xs : List UV} {oi o : Obj} {done left : List UV} (h : GW w r bu xs oi o done left wr) : leftG wr bu r = left.length := by
  obtain ⟨e1, e2⟩ := h.entry
  obtain ⟨es, clock, since, seen, c0, rfl, rfl, _, _, _, _, _, _, h7⟩ := h.2.2.1
  have := congrArg List.length h7
  simp only [leftG, e1, e2]
  simpa [entsU] using this
theorem Units.len {w : World} {xs : List UV} {us : List GU} (h : Units w xs us) : xs.length = us.length := by
  have := congrArg List.length h.names
  simpa [namesU] using this
theorem Units.mem {w : World} {xs : List UV} {us : List GU} (h : Units w xs us) (hd : (namesU us).Nodup) {x : UV} (hx : x ∈ xs) : x.name ∈ namesU us ∧ UVIs w x (findU us x.name) := by
  have hn : x.name ∈ namesU us := by rw [← h.names]; exact List.mem_map.2 ⟨x, hx, rfl⟩
  refine ⟨hn, ?_⟩
  have key : ∃ u ∈ us, UVIs w x u := by
    clear hd hn
    induction h with
    | nil => cases hx
    | cons h1 _ ih =>
      rcases List.mem_cons.1 hx with rfl | hx
      · exact ⟨_, List.mem_cons_self .., h1⟩
      · obtain ⟨u, hu, h2⟩ := ih hx
        exact ⟨u, List.mem_cons_of_mem _ hu, h2⟩
  obtain ⟨u, hu, h2⟩ := key
  rw [h2.name, findU_mem hd hu]
  exact h2
/-- Append of one text, in a plain region: to a row of the call's own. -/
theorem src_one (w : World) (x : Value) (T : TypeId) (h1 : x.oneCell' = true) : Src (w.alloc (.cells #[x] T)) (.slice (some ⟨w.heap.size, 0, none⟩) 1 1) 1 [x] := by
  refine .inr ⟨_, _, rfl, fun j u hj => ?_, fun u hu => by rw [List.mem_singleton.1 hu]; exact h1⟩
  rw [Addr.add_mid, Nat.zero_add, World.cell?_alloc_new]
  simpa using hj
def selN (us : List GU) (n : Nm) (done : List UV) : List Nm := (done.map (·.name)).filter fun m => standU us n (findU us m)
theorem selN_snoc (us : List GU) (n : Nm) (done : List UV) (p : UV) : selN us n (done ++ [p]) = selN us n done ++ if standU us n (findU us p.name) then [p.name] else [] := by
  unfold selN
  rw [List.map_append, List.filter_append]
  cases h : standU us n (findU us p.name) <;> simp [h]
theorem selN_all {us : List GU} {n : Nm} {done : List UV} (hd : (namesU us).Nodup) (hp : (done.map (·.name)).Perm (namesU us)) : sortN (selN us n done) = aheadU us n := by
  unfold aheadU selN
  apply sortN_eq
  refine (hp.filter _).trans ?_
  unfold namesU
  rw [List.filter_map]
  refine List.Perm.of_eq (congrArg _ ?_)
  apply List.filter_congr
  intro u hu
  simp only [Function.comp]
  rw [findU_mem hd hu]
def AhRel (w : World) (bu : Nat) (xs : List UV) (us : List GU) (n : Nm) (r : Nat) (bx : Rw) (v : Value) (wr : World) : Prop :=
  ∃ oi o done left, GW w r bu xs oi o done left wr ∧ Own ⟨w, [(r, oi)]⟩ wr [rowSs v (selN us n done), bx]
set_option maxHeartbeats 4000000 in
theorem ahead_any {w : World} {g bu : Nat} {xs : List UV} {us : List GU} (h : UsAt w g bu xs us) (hd : (namesU us).Nodup) (hlen : us.length ≤ 1000) (n : Nm) :
    Calls Try.prog 22 #[.pointer (some ⟨g, 0, none⟩), .string (toB n)] w fun e w' => ∃ v, e = .returned v ∧ Own w w' [rowSs v (aheadU us n)] := by
  obtain ⟨i0, hi, hz0, hz1, hz2⟩ := infoS_ex
  obtain ⟨x, hx, hl0⟩ := h.lookup n
  have hl := hl0 w (Below.refl _ _) false
  simp only [Bool.false_eq_true, if_false] at hl
  have hc := h.cell
  have hone := Lib.hid hx.one
  have hcs : (Try.prog.info? 44).map (·.size) = some x.cells.length := info_uv
  have H := Lib.hid h
  have HX := Lib.hid hx
  have h8 := Lib.hid (show (8 : Nat) = x.cells.length from rfl)
  have H2 := Lib.hid (show x.cells[2]? = some x.v2 from rfl)
  have H4 := Lib.hid (show x.cells[4]? = some x.v4 from rfl)
  have HD := Lib.hid hd
  have HN := Lib.hid hlen
  clear hl0 h hx hd hlen
  unfold UV.val at hl
  generalize hnb : toB n = nb at hl ⊢
  have HNB := Lib.hid hnb
  clear hnb
  generalize hxc : x.cells = cs at *
  go_enter Try.func22, Try.ntmps22
  go_upto_region 3 with (refine wpList_store_new rfl 44 (.tmp 6) (.tmp 14) rfl (Own.start w) cs w.heap.size rfl rfl rfl h8.out hcs hone.out ?_)
  intro w1 HO1 _
  obtain ⟨oi, o, hrun, hW⟩ := GW.start H.out HO1.below
  have hc := (H.out.later HO1.below).cell
  have hr0 := HO1.size
  have HW := Lib.hid (show AhRel w bu xs us n w1.heap.size ⟨44, cs.length, .slice (some ⟨w.heap.size, 0, none⟩) 1 1, 1, cs⟩ (.slice none 0 0) (w1.alloc oi) from ⟨oi, o, [], xs, hW, (HO1.newB oi).nil 9 1⟩)
  clear hW
  have Hr0 := Lib.hid hr0
  clear hr0 HO1
  go_wp2_with fail
  generalize hrr : w1.heap.size = r at *
  have HRR := Lib.hid hrr
  clear hrr hrun
  generalize hbx : (⟨44, cs.length, .slice (some ⟨w.heap.size, 0, none⟩) 1 1, 1, cs⟩ : Rw) = bx at HW
  have HBX := Lib.hid hbx
  clear hbx
  go_loopw [5] (fun s wr => AhRel w bu xs us n r bx s wr) (fun _ wr => leftG wr bu r)
  case atStart => exact HW.out
  case round =>
    obtain ⟨oi2, o2, done, left, hW, hO⟩ := hrel
    have hle := hW.left_eq
    have hperm := hW.2.2.2.1
    have hdone : done.length ≤ 1000 := by have h1 := hperm.length_eq; have h2 := H.out.units.len; have h3 := HN.out; rw [List.length_append] at h1; omega
    have hll : (selN us n done).length ≤ 1000 := by
      have := List.length_filter_le (fun m => standU us n (findU us m)) (done.map (·.name))
      rw [List.length_map] at this
      exact Nat.le_trans this hdone
    rcases hW.next with ⟨rfl, hnx⟩ | ⟨l1, l2, p, oi', w2', rfl, hw1, hnx, hW', hp, hen⟩
    · have hO2 : Own ⟨w, []⟩ wr [rowSs u5 (selN us n done)] := (hO.swap.tail).forget (S' := []) (fun m hm => by cases hm)
      have hs := sortS_row hO2 (by omega)
      have hper : (done.map (·.name)).Perm (namesU us) := by
        rw [List.append_nil] at hperm
        rw [← H.out.units.names]
        exact hperm.map _
      rw [selN_all HD.out hper] at hs
      obtain ⟨fa, fc, hf, _, _⟩ := Own.sized (h := (show Own ⟨w, []⟩ wr (⟨9, 1, u5, (selN us n done).length, strs (selN us n done)⟩ :: []) from hO2))
      clear hW hle hperm hO hO2 hll hdone hper
      subst hf
      go_wp2_with (go_at_call 36; refine hs.mono ?_; rintro e w3 ⟨rfl, hO3⟩; have HO3 := Lib.hid hO3; clear hO3)
      go_ret
      exact ⟨_, rfl, HO3.out⟩
    · have hr : ∀ oi2, ((r, oi2) : Nat × Obj) ∈ [(r, oi2)] := fun _ => List.mem_cons_self ..
      have hO1 : Own ⟨w, [(r, oi2)]⟩ w2' [rowSs u5 (selN us n done), bx] := by rcases hw1 with rfl | rfl; exact hO; exact hO.drew
      have hO2 : Own ⟨w, [(r, oi')]⟩ (setBlock w2' r oi') [rowSs u5 (selN us n done), bx] := by
        have := hO1.setB (hr _) oi'
        simpa [upd] using this
      obtain ⟨e1, e2⟩ := hW'.entry
      have hent := hen _ e1 e2
      have hl2 := hW'.left_eq
      have hmeas : (l1 ++ l2).length < leftG wr bu r := by rw [hle]; simp
      have hsn := selN_snoc us n done p
      obtain ⟨hpn, hpv⟩ := H.out.units.mem HD.out hp
      generalize hw2 : setBlock w2' r oi' = w2 at *
      obtain ⟨fa, fc, hf, _, _⟩ := Own.sized (h := (show Own ⟨w, [(r, oi')]⟩ w2 (⟨9, 1, u5, (selN us n done).length, strs (selN us n done)⟩ :: [bx]) from hO2))
      have hf' : u5 = .slice fa (selN us n done).length fc := hf
      clear hf
      subst hf'
      have HWn := Lib.hid hW'
      have Hpv := Lib.hid hpv
      have HO2 := Lib.hid hO2
      have HM := Lib.hid hmeas
      have Hsn := Lib.hid hsn
      have honep := Lib.hid hpv.one
      have hcsp : (Try.prog.info? 44).map (·.size) = some p.cells.length := info_uv
      have h8p := Lib.hid (show (8 : Nat) = p.cells.length from rfl)
      have D3 := Lib.hid (show p.cells[3]? = some p.v3 from rfl)
      clear hO hO1 hO2 hW hW' hle hperm e1 e2 hen hl2 hsn hmeas hdone hw1 hw2 hpv
      have Hll := Lib.hid hll
      clear hll
      unfold UV.val at hent hnx
      generalize hls : selN us n done = ls at *
      have Hls := Lib.hid hls
      clear hls
      generalize hpnb : toB p.name = pn at hent hnx
      have Hpn := Lib.hid hpnb
      clear hpnb
      generalize hpc : p.cells = pcs at *
      go_upto_region 6 with (refine wpList_store_new rfl 44 (.tmp 8) (.tmp 24) rfl HO2.out pcs w2.heap.size rfl rfl rfl h8p.out hcsp honep.out ?_)
      intro w3 hO3 _
      have d3 : w3.cell? ⟨w2.heap.size, 3, none⟩ = some p.v3 := by
        rw [hO3.cell 3 (by rw [← h8p.out]; decide)]; exact D3.out
      have hbx3 : Own ⟨w, [(r, oi')]⟩ w3 (⟨44, cs.length, .slice (some ⟨w.heap.size, 0, none⟩) 1 1, 1, cs⟩ :: [rowSs (.slice fa ls.length fc) ls]) := by
        have := hO3.tail.swap
        rwa [← HBX.out] at this
      have c2 : w3.cell? ⟨w.heap.size, 2, none⟩ = some x.v2 := by
        rw [hbx3.cell 2 (by rw [← h8.out]; decide)]; exact H2.out
      have c4 : w3.cell? ⟨w.heap.size, 4, none⟩ = some x.v4 := by
        rw [hbx3.cell 4 (by rw [← h8.out]; decide)]; exact H4.out
      have hB3 : Below w.heap.size w w3 := hO3.below
      have K1 := Lib.hid (contains_any x.v2 _ p.name w3 (HX.out.later hB3).s2)
      have K2 := Lib.hid (contains_any x.v4 _ p.name w3 (HX.out.later hB3).s4)
      have K3 := Lib.hid (contains_any p.v3 _ n w3 (Hpv.out.later hB3).s3)
      rw [Hpn.out] at K1 K2
      rw [HNB.out] at K3
      have hW3 : GW w r bu xs oi' o2 (done ++ [p]) (l1 ++ l2) w3 := ⟨hO3.at (List.mem_cons_self ..), HWn.out.2.1, HWn.out.2.2.1, HWn.out.2.2.2.1, hB3, HWn.out.2.2.2.2.2⟩
      have HNO := Lib.hid (fun (hf : standU us n (findU us p.name) = false) => (show AhRel w bu xs us n r bx (.slice fa ls.length fc) w3 ∧ leftG w3 bu r < leftG wr bu r from ⟨⟨oi', o2, _, _, hW3, by
        have := Hsn.out
        rw [hf] at this
        rw [this]; simpa using hO3.tail⟩, by rw [hW3.left_eq]; exact HM.out⟩))
      have HYES := Lib.hid (fun (hf : standU us n (findU us p.name) = true) (v4 : Value) (w4 : World) (hO4 : Own ⟨w, [(r, oi')]⟩ w4 (⟨9, 1, v4, ls.length + 1, strs ls ++ [.string pn]⟩ :: [bx])) => (show AhRel w bu xs us n r bx v4 w4 ∧ leftG w4 bu r < leftG wr bu r from by
        have hW4 : GW w r bu xs oi' o2 (done ++ [p]) (l1 ++ l2) w4 := ⟨hO4.at (List.mem_cons_self ..), HWn.out.2.1, HWn.out.2.2.1, HWn.out.2.2.2.1, hO4.below, HWn.out.2.2.2.2.2⟩
        refine ⟨⟨oi', o2, _, _, hW4, ?_⟩, by rw [hW4.left_eq]; exact HM.out⟩
        have := Hsn.out
        rw [hf] at this
        rw [this]
        show Own _ w4 (⟨9, 1, v4, (ls ++ [p.name]).length, strs (ls ++ [p.name])⟩ :: [bx])
        rw [List.length_append, show strs (ls ++ [p.name]) = strs ls ++ [.string pn] from by rw [← Hpn.out]; simp [strs]]
        exact hO4))
      have HST := Lib.hid (show standU us n (findU us p.name) = (decide (p.name ∈ (findU us n).af) || decide (p.name ∈ (findU us n).re) || decide (n ∈ (findU us p.name).be)) from by
        unfold standU; rw [(findU_of HD.out hpn).2])
      have HO4 := Lib.hid (show Own ⟨w, [(r, oi')]⟩ (w3.alloc (.cells #[.string pn] 9)) (⟨9, 1, .slice fa ls.length fc, ls.length, strs ls⟩ :: [bx]) from hO3.tail.alloc _)
      have Hsrc := Lib.hid (src_one w3 (.string pn) 9 rfl)
      have Hb1 := Lib.hid (show ls.length + 1 ≤ maxLen from by have := Hll.out; unfold maxLen; omega)
      have Hb2 := Lib.hid (show (ls.length + 1) * 16 ≤ 140737488355328 from by have := Hll.out; omega)
      clear hO3 hbx3 hB3 hW3 hent hnx
      generalize decide (p.name ∈ (findU us n).af) = b1 at *
      generalize decide (p.name ∈ (findU us n).re) = b2 at *
      generalize decide (n ∈ (findU us p.name).be) = b3 at *
      generalize x.v2 = xv2 at *
      generalize x.v4 = xv4 at *
      generalize p.v3 = pv3 at *
      cases b1 with
      | true =>
        have HYES := Lib.hid (HYES.out (by rw [HST.out]; rfl))
        go_wp2_with (first
          | (at_builtin; refine wpList_append_src rfl (.tmp 41) (.tmp 43) 23 rfl (.slice fa ls.length fc) ls.length (strs ls) (.slice (some ⟨w3.heap.size, 0, none⟩) 1 1) 1 [.string pn] rfl rfl HO4.out i0 (.string ⟨#[]⟩) 16 Try.underlying23 hi hz0 hz1 hz2 rfl (by decide) Hsrc.out (by simp) Hb1.out Hb2.out ?_)
          | (go_at_call 25; refine K1.out.mono ?_; rintro e w9 ⟨rfl, rfl⟩; have G1 := Lib.hid True.intro))
        intro v4 w4 hO4
        have HR := Lib.hid (HYES.out v4 w4 hO4)
        obtain ⟨a4, c4, hv4, _, _⟩ := Own.sized (h := hO4)
        subst hv4
        clear hO4
        go_wp2_with fail
        go_roundw
        case rel => exact HR.out.1
        case measure => exact HR.out.2
      | false =>
        cases b2 with
        | true =>
        have HYES := Lib.hid (HYES.out (by rw [HST.out]; rfl))
        go_wp2_with (first
          | (at_builtin; refine wpList_append_src rfl (.tmp 41) (.tmp 43) 23 rfl (.slice fa ls.length fc) ls.length (strs ls) (.slice (some ⟨w3.heap.size, 0, none⟩) 1 1) 1 [.string pn] rfl rfl HO4.out i0 (.string ⟨#[]⟩) 16 Try.underlying23 hi hz0 hz1 hz2 rfl (by decide) Hsrc.out (by simp) Hb1.out Hb2.out ?_)
          | (go_at_call 25; have _g1 := G1; clear _g1; refine K2.out.mono ?_; rintro e w9 ⟨rfl, rfl⟩; have G2 := Lib.hid True.intro)
          | (go_at_call 25; refine K1.out.mono ?_; rintro e w9 ⟨rfl, rfl⟩; have G1 := Lib.hid True.intro))
        intro v4 w4 hO4
        have HR := Lib.hid (HYES.out v4 w4 hO4)
        obtain ⟨a4, c4, hv4, _, _⟩ := Own.sized (h := hO4)
        subst hv4
        clear hO4
        go_wp2_with fail
        go_roundw
        case rel => exact HR.out.1
        case measure => exact HR.out.2
        | false =>
        cases b3 with
        | true =>
        have HYES := Lib.hid (HYES.out (by rw [HST.out]; rfl))
        go_wp2_with (first
          | (at_builtin; refine wpList_append_src rfl (.tmp 41) (.tmp 43) 23 rfl (.slice fa ls.length fc) ls.length (strs ls) (.slice (some ⟨w3.heap.size, 0, none⟩) 1 1) 1 [.string pn] rfl rfl HO4.out i0 (.string ⟨#[]⟩) 16 Try.underlying23 hi hz0 hz1 hz2 rfl (by decide) Hsrc.out (by simp) Hb1.out Hb2.out ?_)
          | (go_at_call 25; have _g2 := G2; clear _g2; refine K3.out.mono ?_; rintro e w9 ⟨rfl, rfl⟩; have G3 := Lib.hid True.intro)
          | (go_at_call 25; have _g1 := G1; clear _g1; refine K2.out.mono ?_; rintro e w9 ⟨rfl, rfl⟩; have G2 := Lib.hid True.intro)
          | (go_at_call 25; refine K1.out.mono ?_; rintro e w9 ⟨rfl, rfl⟩; have G1 := Lib.hid True.intro))
        intro v4 w4 hO4
        have HR := Lib.hid (HYES.out v4 w4 hO4)
        obtain ⟨a4, c4, hv4, _, _⟩ := Own.sized (h := hO4)
        subst hv4
        clear hO4
        go_wp2_with fail
        go_roundw
        case rel => exact HR.out.1
        case measure => exact HR.out.2
        | false =>
        have HNO := Lib.hid (HNO.out (by rw [HST.out]; rfl))
        go_wp2_with (first
          | (go_at_call 25; have _g2 := G2; clear _g2; refine K3.out.mono ?_; rintro e w9 ⟨rfl, rfl⟩; have G3 := Lib.hid True.intro)
          | (go_at_call 25; have _g1 := G1; clear _g1; refine K2.out.mono ?_; rintro e w9 ⟨rfl, rfl⟩; have G2 := Lib.hid True.intro)
          | (go_at_call 25; refine K1.out.mono ?_; rintro e w9 ⟨rfl, rfl⟩; have G1 := Lib.hid True.intro))
        go_roundw
        case rel => exact HNO.out.1
        case measure => exact HNO.out.2
end Go.Proofs.Ytnjabanjgckeoaa
