/- grow: what comes new. -/
import Derived.Test.YtamkfadammlhbaaGreatDoorTree9
import Derived.Test.YtamkfadammlhbaaGreatDoorKRec2
import Derived.Deep.RegionHeld3
namespace Go.Proofs.YtamkfadammlhbaaGreatDoor
open Go.RowKit
open Go.ChangeMaps (setBlock)
set_option linter.unusedVariables false
set_option linter.unusedSimpArgs false
set_option maxRecDepth 100000

theorem Tree.mono {S S2 : Blocks} {D D2 : Value → List Int → Prop} {t : Nat} {T : Tr} (H : Tree S D t T) (hS : ∀ b x, b ∈ t :: T.foot → (b, x) ∈ S → (b, x) ∈ S2) (hD : ∀ v zs, D v zs → D2 v zs) : Tree S2 D2 t T :=
  ⟨H.at_.mono (fun b x hb hx => hS b x hb hx) hD, H.apart, H.good⟩
theorem Tree.setNext {S : Blocks} {D : Value → List Int → Prop} {t : Nat} {T : Tr} (H : Tree S D t T) (m : Int) (hm : T.next ≤ m) : Tree (upd S t (.cells (treeCells { T with next := m }) 75)) D t { T with next := m } := by
  have ht : t ∉ T.foot := (List.nodup_cons.1 H.apart).1
  obtain ⟨o, h1, h2⟩ := H.at_.map
  refine ⟨⟨upd_same H.at_.cells _, ⟨o, upd_other (b := t) h1 (fun e => ht (e ▸ List.mem_cons_self ..)) _, h2⟩, fun p hp => ?_⟩, H.apart, ⟨H.good.keys, H.good.root, H.good.kids, fun p hp => ?_⟩⟩
  · exact (H.at_.node p hp).mono (fun b x hb hx => upd_other (b := t) hx (fun e => ht (e ▸ foot_mem hp hb)) _) (fun _ _ h => h)
  · have := H.good.low p hp
    exact ⟨this.1, Int.lt_of_lt_of_le this.2 hm⟩
theorem Tree.addN {S S2 : Blocks} {D : Value → List Int → Prop} {t N : Nat} {T : Tr} (H : Tree S D t T) {i : Int} (hi : look T.nodes i = none) (hi1 : 1 ≤ i) (hi2 : i < T.next) {n : Nd} {o : Obj} (ho : MapO KI o (put (nodesV T) i (.pointer (some ⟨n.b, 0, none⟩))))
    (hS : ∀ b x, (b, x) ∈ S → b ≠ T.bm → (b, x) ∈ S2) (hbm : (T.bm, o) ∈ S2) (hN : NodeIn (inS S2) D n) (hlow : ∀ b ∈ t :: T.foot, b < N) (hnew : ∀ b ∈ n.foot, N ≤ b) (hnd : n.foot.Nodup) (hkids : n.kids = []) : Tree S2 D t (T.setN i n) := by
  have hk : i ∉ T.nodes.map (·.1) := fun hm => by
    obtain ⟨v, hv⟩ := look_some_of_key hm
    rw [hi] at hv; cases hv
  have hP := Part.add (B := 0) ⟨H.at_, H.apart, fun b _ => Nat.zero_le b⟩ hk ho hS hbm hN hlow (fun b hb => ⟨hnew b hb, Nat.zero_le b⟩) hnd
  have hl : ∀ j m, look T.nodes j = some m → ∃ m', look (T.setN i n).nodes j = some m' := fun j m hj => by
    unfold Tr.setN; rw [look_put]
    split
    · exact ⟨_, rfl⟩
    · exact ⟨m, hj⟩
  have hmem : ∀ p ∈ (T.setN i n).nodes, p ∈ T.nodes ∨ p = (i, n) := fun p hp => by
    unfold Tr.setN at hp; rw [put_new hk] at hp
    rcases List.mem_append.1 hp with h | h
    · exact .inl h
    · exact .inr (List.mem_singleton.1 h)
  refine ⟨hP.at_, hP.apart, ⟨?_, ?_, fun p hp q hq => ?_, fun p hp => ?_⟩⟩
  · unfold Tr.setN; rw [put_new hk, List.map_append]
    exact List.nodup_append.2 ⟨H.good.keys, by simp, fun a ha b hb e => by simp at hb; subst hb; exact hk (e ▸ ha)⟩
  · obtain ⟨r, k, h3, h4⟩ := H.good.root
    have hne : (1 : Int) ≠ i := fun e => by rw [← e, h3] at hi; cases hi
    refine ⟨r, k, ?_, h4⟩
    unfold Tr.setN; rw [look_put, if_neg hne]; exact h3
  · rcases hmem p hp with h | rfl
    · obtain ⟨m, hm⟩ := H.good.kids p h q hq
      exact hl _ _ hm
    · have hq' : q ∈ n.kids := hq
      rw [hkids] at hq'; cases hq'
  · rcases hmem p hp with h | rfl
    · exact H.good.low p h
    · exact ⟨hi1, hi2⟩
theorem fresh_none {T : Tr} (G : Good T) : look T.nodes T.next = none := by
  cases h : look T.nodes T.next with
  | none => rfl
  | some n => have := (G.low _ (look_mem h)).2; exact absurd this (Int.lt_irrefl _)
abbrev opL (kind : Int) (p q : ByteArray) (v : Value) : List Value := [.int .i64 kind, .string p, .string q, v]
def mkdirT (T : Tr) (j : Int) (nd : Nd) (name : ByteArray) (n : Nd) : Tr := (({ T with next := T.next + 1 } : Tr).setN T.next n).setN j { nd with kids := put nd.kids name T.next }
/-- What becomes of memory where a tree turns: rows may be added. -/
def DoL (w0 : World) (S : Blocks) (L : List Rw) (t : Nat) (T : Tr) (w : World) (R : Tr → Prop) (r : Value) (e : Ending) (w' : World) : Prop :=
  ∃ S' L' T', e = .returned r ∧ Own ⟨w0, S'⟩ w' L' ∧ (∀ x ∈ L, x ∈ L') ∧ Tree S' (Pc L') t T' ∧ Frame S S' (t :: T.foot) (t :: T'.foot) w.heap.size ∧ R T'
theorem Tree.setC {S : Blocks} {D : Value → List Int → Prop} {t : Nat} {T : Tr} (H : Tree S D t T) : t ∉ T.foot := (List.nodup_cons.1 H.apart).1
set_option maxHeartbeats 2000000 in
theorem growDir_any {w0 w : World} {S : Blocks} {L : List Rw} {t : Nat} {T : Tr} (hO : Own ⟨w0, S⟩ w L) (H : Tree S (Pc L) t T) {j : Int} {nd : Nd} {k : Nat} (hj : look T.nodes j = some nd) (hk : nd.k = some k) (name : ByteArray)
    (p q : ByteArray) (v : Value) (hv : ∃ a n c, v = .slice a n c) (hn1 : 1 ≤ T.next) (hn2 : T.next ≤ 1000000000) :
    Calls Tryz.prog 66 #[.pointer (some ⟨t, 0, none⟩), .agg #[.pointer (some ⟨nd.b, 0, none⟩), .string name], .agg (opL 0 p q v).toArray] w
      (DoL w0 S L t T w (fun T' => ∃ n : Nd, n.er = ⟨true, [], [], 0⟩ ∧ T' = mkdirT T j nd name n) (.tuple #[])) := by
  obtain ⟨va, vn, vc, rfl⟩ := hv
  have hO2 := (hO.newB (.cells #[.pointer (some ⟨nd.b, 0, none⟩), .string name] 115)).newB (.cells #[.int .i64 0, .string p, .string q, .slice va vn vc] 38)
  rw [show (w.alloc (.cells #[.pointer (some ⟨nd.b, 0, none⟩), .string name] 115)).heap.size = w.heap.size + 1 by simp] at hO2
  obtain ⟨w2, hw2⟩ : ∃ w2, w2 = (w.alloc (.cells #[.pointer (some ⟨nd.b, 0, none⟩), .string name] 115)).alloc (.cells #[.int .i64 0, .string p, .string q, .slice va vn vc] 38) := ⟨_, rfl⟩
  rw [← hw2] at hO2
  have hsz2 : w2.heap.size = w.heap.size + 2 := by rw [hw2]; simp
  have hlow : ∀ b ∈ t :: T.foot, b < w.heap.size := fun b hb => by
    obtain ⟨x, hx⟩ := kept_in H.at_ b hb
    exact (hO.atLt hx).2
  have H2 := H.mono (D2 := Pc L) (S2 := (w.heap.size + 1, .cells #[.int .i64 0, .string p, .string q, .slice va vn vc] 38) :: (w.heap.size, .cells #[.pointer (some ⟨nd.b, 0, none⟩), .string name] 115) :: S) (fun b x _ hx => List.mem_cons_of_mem _ (List.mem_cons_of_mem _ hx)) (fun _ _ h => h)
  have ht := hlow t (List.mem_cons_self ..)
  -- the next number
  have c1 : w2.cell? ⟨t, 1, none⟩ = some (.int .i64 T.next) := (H2.at_.inWorld hO2).at0.2.1
  have fz1 : w2.frozen? ⟨t, 1, none⟩ = false := free_at (hO2.at H2.at_.cells) 1
  have k0 : w2.cell? ⟨w.heap.size + 1, 0, none⟩ = some (.int .i64 0) := by rw [hO2.cellB (List.mem_cons_self ..)]; rfl
  have hO3 := hO2.storeB H2.at_.cells 1 (.int .i64 (T.next + 1))
  have H3 := H2.setNext (T.next + 1) (by omega)
  have m0 : (w.heap.size + 1, Obj.cells #[.int .i64 0, .string p, .string q, .slice va vn vc] 38) ∈ upd ((w.heap.size + 1, .cells #[.int .i64 0, .string p, .string q, .slice va vn vc] 38) :: (w.heap.size, .cells #[.pointer (some ⟨nd.b, 0, none⟩), .string name] 115) :: S) t (.cells (treeCells { T with next := T.next + 1 }) 75) := upd_other (List.mem_cons_self ..) (by omega) _
  have m1 : (w.heap.size, Obj.cells #[.pointer (some ⟨nd.b, 0, none⟩), .string name] 115) ∈ upd ((w.heap.size + 1, .cells #[.int .i64 0, .string p, .string q, .slice va vn vc] 38) :: (w.heap.size, .cells #[.pointer (some ⟨nd.b, 0, none⟩), .string name] 115) :: S) t (.cells (treeCells { T with next := T.next + 1 }) 75) := upd_other (List.mem_cons_of_mem _ (List.mem_cons_self ..)) (by omega) _
  have hkeep3 : ∀ b x, (b, x) ∈ S → b ∉ t :: T.foot → (b, x) ∈ upd ((w.heap.size + 1, .cells #[.int .i64 0, .string p, .string q, .slice va vn vc] 38) :: (w.heap.size, .cells #[.pointer (some ⟨nd.b, 0, none⟩), .string name] 115) :: S) t (.cells (treeCells { T with next := T.next + 1 }) 75) := fun b x hb hnb => upd_other (List.mem_cons_of_mem _ (List.mem_cons_of_mem _ hb)) (fun e => hnb (e ▸ List.mem_cons_self ..)) _
  obtain ⟨w3, hw3⟩ : ∃ w3, w3 = w2.setCell ⟨t, 1, none⟩ (.int .i64 (T.next + 1)) := ⟨_, rfl⟩
  change Own ⟨w0, upd _ t (.cells (treeCells { T with next := T.next + 1 }) 75)⟩ _ L at hO3
  rw [← hw3] at hO3
  have hsz3 : w3.heap.size = w.heap.size + 2 := by rw [hw3, ← hsz2]; simp
  generalize upd ((w.heap.size + 1, Obj.cells #[.int .i64 0, .string p, .string q, .slice va vn vc] 38) :: (w.heap.size, Obj.cells #[.pointer (some ⟨nd.b, 0, none⟩), .string name] 115) :: S) t (.cells (treeCells { T with next := T.next + 1 }) 75) = S3 at *
  -- the new directory
  have hO4 := ((hO3.drew.newB (.map #[] 0)).newB (.cells #[.map (some w3.heap.size), .slice none 0 0, .int .i64 0] 86))
  rw [show (w3.drew.alloc (.map #[] 0)).heap.size = w3.heap.size + 1 by simp] at hO4
  have hnd := newDir_any w3.drew
  obtain ⟨w4, hw4⟩ : ∃ w4, w4 = (w3.drew.alloc (.map #[] 0)).alloc (.cells #[.map (some w3.heap.size), .slice none 0 0, .int .i64 0] 86) := ⟨_, rfl⟩
  change Calls Tryz.prog 30 #[] w3.drew (fun e w' => e = .returned (.pointer (some ⟨w3.heap.size + 1, 0, none⟩)) ∧ w' = (w3.drew.alloc (.map #[] 0)).alloc (.cells #[.map (some w3.heap.size), .slice none 0 0, .int .i64 0] 86)) at hnd
  rw [← hw4] at hnd
  change Own ⟨w0, (w3.heap.size + 1, _) :: (w3.heap.size, Obj.map #[] 0) :: S3⟩ ((w3.drew.alloc (.map #[] 0)).alloc (.cells #[.map (some w3.heap.size), .slice none 0 0, .int .i64 0] 86)) L at hO4
  rw [← hw4] at hO4
  rw [hsz3] at hO4 hnd
  -- it stands in the map of nodes
  obtain ⟨o1, x1, x2⟩ := H3.at_.map
  have x1' := List.mem_cons_of_mem (w.heap.size + 2 + 1, Obj.cells #[.map (some (w.heap.size + 2)), .slice none 0 0, .int .i64 0] 86) (List.mem_cons_of_mem (w.heap.size + 2, Obj.map #[] 0) x1)
  obtain ⟨o2, hup1, x3⟩ := x2.update kindsI Tryz.underlying73 (hO4.at x1') T.next (.pointer (some ⟨w.heap.size + 2 + 1, 0, none⟩))
  have hO5 := hO4.setB x1' o2
  have hbmlt : T.bm < w.heap.size := hlow _ (List.mem_cons_of_mem _ (List.mem_cons_self ..))
  have hbm3 : ({ T with next := T.next + 1 } : Tr).bm = T.bm := rfl
  have hkeep5 : ∀ b x, (b, x) ∈ S3 → b ≠ T.bm → (b, x) ∈ upd ((w.heap.size + 2 + 1, Obj.cells #[.map (some (w.heap.size + 2)), .slice none 0 0, .int .i64 0] 86) :: (w.heap.size + 2, Obj.map #[] 0) :: S3) T.bm o2 := fun b x hb hne => upd_other (List.mem_cons_of_mem _ (List.mem_cons_of_mem _ hb)) hne _
  have H5 := H3.addN (i := T.next) (n := newNd (w.heap.size + 2)) (N := w.heap.size + 2) (fresh_none H.good) hn1 (by show T.next < T.next + 1; omega) x3 hkeep5 (upd_same x1' o2) ⟨upd_other (List.mem_cons_self ..) (by show w.heap.size + 2 + 1 ≠ T.bm; omega) _, fun k2 hk2 => by
      have hk3 : w.heap.size + 2 = k2 := by injection hk2
      subst hk3
      exact ⟨.map #[] 0, upd_other (List.mem_cons_of_mem _ (List.mem_cons_self ..)) (by omega) _, MapO.empty KS⟩, (fun h => by cases h), Pc.nil L, ⟨none, 0, rfl⟩⟩
    (fun b hb => by have := hlow b hb; omega) (fun b hb => by
      have : b ∈ [w.heap.size + 2 + 1, w.heap.size + 2] := hb
      simp at this; omega) (by show ([w.heap.size + 2 + 1, w.heap.size + 2] : List Nat).Nodup; simp) rfl
  obtain ⟨w5, hw5⟩ : ∃ w5, w5 = setBlock w4 T.bm o2 := ⟨_, rfl⟩
  rw [← hw5] at hO5 hup1
  have m1' := hkeep5 _ _ m1 (by omega)
  have hkeepA : ∀ b x, (b, x) ∈ S → b ∉ t :: T.foot → (b, x) ∈ upd ((w.heap.size + 2 + 1, Obj.cells #[.map (some (w.heap.size + 2)), .slice none 0 0, .int .i64 0] 86) :: (w.heap.size + 2, Obj.map #[] 0) :: S3) T.bm o2 := fun b x hb hnb => hkeep5 b x (hkeep3 b x hb hnb) (fun e => hnb (e ▸ List.mem_cons_of_mem _ (List.mem_cons_self ..)))
  generalize upd ((w.heap.size + 2 + 1, Obj.cells #[.map (some (w.heap.size + 2)), .slice none 0 0, .int .i64 0] 86) :: (w.heap.size + 2, Obj.map #[] 0) :: S3) T.bm o2 = S5 at *
  have hO6 := hO5.drew
  -- and at its name
  have hne : j ≠ T.next := fun e => by have := (H.good.low _ (look_mem hj)).2; simp at this; omega
  have hj5 : look (({ T with next := T.next + 1 } : Tr).setN T.next (newNd (w.heap.size + 2))).nodes j = some nd := by unfold Tr.setN; rw [look_put, if_neg hne]; exact hj
  have hN5 := H5.at_.node _ (look_mem hj5)
  obtain ⟨o3, y1, y2⟩ := hN5.kid k hk
  obtain ⟨o4, hup2, y3⟩ := y2.update (w := w5.drew) kindsS Tryz.underlying84 (hO6.at y1) name (.int .i64 T.next)
  rw [put_kidsV] at y3
  have hO7 := hO6.setB y1 o4
  have H7 := H5.setKids hj5 hk y3 (fun q hq => by
    rcases mem_putk hq with rfl | hq
    · exact ⟨newNd (w.heap.size + 2), by unfold Tr.setN; rw [look_put, if_pos rfl]⟩
    · exact H5.good.kids _ (look_mem hj5) q hq)
  have hfr : Frame S (upd S5 k o4) (t :: T.foot) (t :: (mkdirT T j nd name (newNd (w.heap.size + 2))).foot) w.heap.size := by
    have hnk : T.next ∉ T.nodes.map (·.1) := fun hm => by
      obtain ⟨v, hv⟩ := look_some_of_key hm
      rw [fresh_none H.good] at hv; cases hv
    have e : (mkdirT T j nd name (newNd (w.heap.size + 2))).foot = T.foot ++ [w.heap.size + 2 + 1, w.heap.size + 2] :=
      (setN_foot (n' := { nd with kids := put nd.kids name T.next }) hj5 rfl rfl).trans (foot_put (T := { T with next := T.next + 1 }) hnk)
    refine ⟨fun b x hb hnb => upd_other (hkeepA b x hb hnb) (fun e => hnb (e ▸ List.mem_cons_of_mem _ ((foot_node hj).2 k hk))) _, fun b hb => ?_⟩
    rw [e, ← List.cons_append] at hb
    rcases List.mem_append.1 hb with hb | hb
    · exact .inl hb
    · simp at hb; right; omega
  have HP := Lib.hid (show DoL w0 S L t T w (fun T' => ∃ n : Nd, n.er = ⟨true, [], [], 0⟩ ∧ T' = mkdirT T j nd name n) (.tuple #[]) (.returned (.tuple #[])) (setBlock w5.drew k o4) from ⟨_, L, _, rfl, hO7, fun _ h => h, H7, hfr, _, rfl, rfl⟩)
  have k3 : w3.cell? ⟨w.heap.size + 1, 0, none⟩ = some (.int .i64 0) := by rw [hO3.cellB m0]; rfl
  rw [hw3, hw2] at k3
  rw [hw2] at c1 fz1 k0
  have c2 : w3.drew.cell? ⟨t, 2, none⟩ = some (.map (some T.bm)) := (H3.at_.inWorld hO3.drew).at0.2.2
  have c4 : w4.cell? ⟨t, 2, none⟩ = some (.map (some T.bm)) := by rw [hO4.cellB (List.mem_cons_of_mem _ (List.mem_cons_of_mem _ H3.at_.cells))]; rfl
  have c5 : w5.cell? ⟨t, 2, none⟩ = some (.map (some T.bm)) := (H5.at_.inWorld hO5).at0.2.2
  have p0 : w5.drew.cell? ⟨w.heap.size, 0, none⟩ = some (.pointer (some ⟨nd.b, 0, none⟩)) := by rw [hO6.cellB m1']; rfl
  have p1 : w5.drew.cell? ⟨w.heap.size, 1, none⟩ = some (.string name) := by rw [hO6.cellB m1']; rfl
  have n0 : w5.drew.cell? ⟨nd.b, 0, none⟩ = some (.map (some k)) := by rw [hO6.cellB hN5.cells 0, ← hk]; rfl
  have hwr : IntKind.i64.wrap (T.next + 1) = T.next + 1 := IntWalk.i64_in _ (by omega)
  clear hO hO2 hO3 hO4 hO5 hO6 hO7 H H2 H3 H5 H7 hN5 hfr hlow hkeep3 hkeep5 hkeepA m0 m1 m1' hj hj5 hne hk x1 x1' x2 x3 y1 y2 y3 hbm3 hw4 hsz2 ht hsz3 hbmlt hw5
  have hnd' : Calls Tryz.prog 30 #[] w3.drew (fun e w' => e = .returned (.pointer (some ⟨w.heap.size + 2 + 1, 0, none⟩)) ∧ w4 = w') := hnd.mono fun e w' h => ⟨h.1, h.2.symm⟩
  clear hnd
  go_enter Tryz.func66, Tryz.ntmps66
  go_wp2_with fail
  rw [← hw2, ← hw3]
  clear hw2 hw3 k0 k3 c1 fz1
  go_region_held3 (fun w' : World => w'.cell? ⟨t, 2, none⟩ = some (.map (some T.bm))) (first | exact c2 | exact c4 | exact c5) (first | (go_at_call 30; refine hnd'.mono ?_; rintro e w' ⟨rfl, rfl⟩))
  all_goals go_wp2_with fail
  all_goals go_still_tail 8, (by kernel_rfl)
  all_goals go_wp2_with fail
  trace_state
  all_goals refine bodyPost_end (v := .tuple #[]) ?_ rfl HP.out
  all_goals simp [results, Tryz.results66, go_sem]
end Go.Proofs.YtamkfadammlhbaaGreatDoor
