/- Clone: the walk. -/
import Derived.Test.YtamkfadammlhbaaGreatDoorTree8
namespace Go.Proofs.YtamkfadammlhbaaGreatDoor
open Go.RowKit
open Go.ChangeMaps (setBlock)
set_option linter.unusedVariables false
set_option linter.unusedSimpArgs false
set_option maxRecDepth 100000

/-- The same tree, but for its blocks and the order of its nodes. -/
structure Same (T T' : Tr) : Prop where
  quota : T'.quota = T.quota
  next : T'.next = T.next
  nodes : (erL T'.nodes).Perm (erL T.nodes)
theorem er_mem {l : List (Int × Nd)} {p : Int × Nd} (h : p ∈ l) : (p.1, p.2.er) ∈ erL l := List.mem_map.2 ⟨p, h, rfl⟩
theorem er_of {l : List (Int × Nd)} {q : Int × ENd} (h : q ∈ erL l) : ∃ p ∈ l, p.1 = q.1 ∧ p.2.er = q.2 := by
  obtain ⟨p, hp, e⟩ := List.mem_map.1 h
  exact ⟨p, hp, by rw [← e], by rw [← e]⟩
theorem erL_keys (l : List (Int × Nd)) : (erL l).map (·.1) = l.map (·.1) := by unfold erL; rw [List.map_map]; rfl
theorem Same.keys {T T' : Tr} (h : Same T T') : (T'.nodes.map (·.1)).Perm (T.nodes.map (·.1)) := by
  have := h.nodes.map (·.1)
  rwa [erL_keys, erL_keys] at this
theorem Same.look {T T' : Tr} (h : Same T T') (G : Good T) (i : Int) : (look T'.nodes i).map Nd.er = (look T.nodes i).map Nd.er := by
  have hk := h.keys
  have hn : (T'.nodes.map (·.1)).Nodup := hk.nodup_iff.2 G.keys
  cases h1 : Go.Proofs.YtamkfadammlhbaaGreatDoor.look T.nodes i with
  | some n =>
    obtain ⟨p, hp, e1, e2⟩ := er_of (h.nodes.symm.subset (er_mem (look_mem h1)))
    have := look_of_mem hn hp
    rw [show p.1 = i from e1] at this
    rw [this]
    exact congrArg some e2
  | none =>
    cases h2 : Go.Proofs.YtamkfadammlhbaaGreatDoor.look T'.nodes i with
    | none => rfl
    | some n =>
      obtain ⟨p, hp, e1, e2⟩ := er_of (h.nodes.subset (er_mem (look_mem h2)))
      have := look_of_mem G.keys hp
      rw [show p.1 = i from e1, h1] at this
      cases this
theorem Same.good {T T' : Tr} (h : Same T T') (G : Good T) : Good T' := by
  have hl := fun i => h.look G i
  refine ⟨h.keys.nodup_iff.2 G.keys, ?_, fun p hp q hq => ?_, fun p hp => ?_⟩
  · obtain ⟨n, k, h1, h2⟩ := G.root
    have := hl 1
    rw [h1] at this
    cases h3 : Go.Proofs.YtamkfadammlhbaaGreatDoor.look T'.nodes 1 with
    | none => rw [h3] at this; cases this
    | some m =>
      rw [h3] at this
      have h4 : m.er = n.er := by injection this
      have h5 : m.k.isSome = n.k.isSome := congrArg ENd.dir h4
      rw [h2] at h5
      cases hk : m.k with
      | none => rw [hk] at h5; cases h5
      | some k' => exact ⟨m, k', rfl, hk⟩
  · obtain ⟨p0, hp0, e1, e2⟩ := er_of (h.nodes.subset (er_mem hp))
    have hkids : p0.2.kids = p.2.kids := congrArg ENd.kids e2
    obtain ⟨n, hn⟩ := G.kids p0 hp0 q (hkids ▸ hq)
    have := hl q.2
    rw [hn] at this
    cases h3 : Go.Proofs.YtamkfadammlhbaaGreatDoor.look T'.nodes q.2 with
    | none => rw [h3] at this; cases this
    | some m => exact ⟨m, rfl⟩
  · obtain ⟨p0, hp0, e1, e2⟩ := er_of (h.nodes.subset (er_mem hp))
    have := G.low p0 hp0
    rw [show p0.1 = p.1 from e1] at this
    rw [h.next]; exact this
theorem Part.tree {S : Blocks} {D : Value → List Int → Prop} {c B : Nat} {T T' : Tr} (H : Part S D c T' B) (h : Same T T') (G : Good T) : Tree S D c T' := ⟨H.at_, H.apart, h.good G⟩
def CloneAt (w0 : World) (S : Blocks) (L : List Rw) (D : Value → List Int → Prop) (T : Tr) (w : World) (e : Ending) (w' : World) : Prop :=
  ∃ c S' T', e = .returned (.pointer (some ⟨c, 0, none⟩)) ∧ Own ⟨w0, S'⟩ w' L ∧ Tree S' D c T' ∧ (∀ b x, (b, x) ∈ S → (b, x) ∈ S') ∧ (∀ b ∈ c :: T'.foot, w.heap.size ≤ b) ∧ Same T T'
def CloneRel (w0 : World) (S : Blocks) (L : List Rw) (D : Value → List Int → Prop) (T : Tr) (w : World) (r c : Nat) (wr : World) : Prop :=
  ∃ oi o done left S' T', WalksR w r T oi o done left wr ∧ Own ⟨w0, S'⟩ wr L ∧ (r, oi) ∈ S' ∧ Part S' D c T' w.heap.size ∧ r ∉ c :: T'.foot ∧ T'.quota = T.quota ∧ T'.next = T.next ∧ T'.bm = w.heap.size ∧ erL T'.nodes = erL done ∧ (∀ b x, (b, x) ∈ S → (b, x) ∈ S')
theorem clone_round {w0 w w2 W4 : World} {S S2 : Blocks} {L : List Rw} {D : Value → List Int → Prop} {T T' : Tr} {r c b : Nat} {oi' o : Obj} {done l : List (Int × Nd)} {p : Int × Nd} (HO : Own ⟨w0, S⟩ w L) (hW' : WalksR w r T oi' o (done ++ [p]) l w2) (hr2 : (r, oi') ∈ S2) (hrn : r ∉ c :: T'.foot)
    (hq : T'.quota = T.quota) (hx : T'.next = T.next) (hbm : T'.bm = w.heap.size) (he : erL T'.nodes = erL done) (hi : p.1 ∉ T'.nodes.map (·.1)) (hsub2 : ∀ b x, (b, x) ∈ S → (b, x) ∈ S2) (hA : Added w0 S2 L D c w.heap.size T' p.1 p.2 b W4) (hBW : Below w.heap.size w W4) :
    ∃ W5, (Instr.mapUpdate 73 (.map (some T'.bm)) (.int .i64 p.1) (.pointer (some ⟨b, 0, none⟩))).run Tryz.prog W4 = .ok () W5 ∧ CloneRel w0 S L D T w r c W5 ∧ leftN W5 T.bm r = l.length := by
  obtain ⟨o5, S5, n', hup, hO5, hP5, hn, hk5, hf5⟩ := hA
  have hrb : r ≠ T'.bm := fun e => hrn (by rw [e]; exact List.mem_cons_of_mem _ (List.mem_cons_self ..))
  have hr5 := hk5 _ _ hr2 hrb
  have hW5 : WalksR w r T oi' o (done ++ [p]) l (setBlock W4 T'.bm o5) := ⟨hO5.at hr5, hW'.2.1, hW'.2.2.1, hW'.2.2.2.1, below_setBlock hBW (by omega) _, hW'.2.2.2.2.2⟩
  refine ⟨_, hup, ⟨oi', o, _, _, S5, T'.setN p.1 n', hW5, hO5, hr5, hP5, fun hm => ?_, hq, hx, hbm, ?_, fun b x hb => hk5 b x (hsub2 b x hb) fun e => ?_⟩, hW5.left_eq⟩
  · rcases hf5 r hm with h1 | h1
    · exact hrn h1
    · exact h1 _ hr2
  · unfold Tr.setN
    rw [put_new hi]
    unfold erL at he ⊢
    rw [List.map_append, List.map_append, he]
    simp only [List.map_cons, List.map_nil]
    rw [hn]
  · have := (HO.atLt hb).2
    omega
set_option maxHeartbeats 1000000 in
theorem clone_t {w0 w : World} {S : Blocks} {L : List Rw} {D : Value → List Int → Prop} {t : Nat} {T : Tr} (hO : Own ⟨w0, S⟩ w L) (H : Tree S D t T) :
    Calls Tryz.prog 23 #[.pointer (some ⟨t, 0, none⟩)] w (CloneAt w0 S L D T w) := by
  obtain ⟨c0, c1, c2⟩ := (H.at_.inWorld hO).at0
  obtain ⟨a0, a1, a2⟩ := (H.at_.inWorld (hO.alloc (.map #[] 0)).drew).at0
  have hmk : ∀ w, (Instr.makeMap 73 none).run Tryz.prog w = .ok (.map (some w.heap.size)) (w.alloc (.map #[] 0)) := fun w => rfl
  have hO1 := hO.newB (.map #[] 0)
  have hO2 := (hO1.newB (.cells #[.int .i64 T.quota, .int .i64 T.next, .map (some w.heap.size)] 75)).drew
  have es : (w.alloc (.map #[] 0)).heap.size = w.heap.size + 1 := by simp
  rw [es] at hO2
  have hP : Part ((w.heap.size + 1, .cells #[.int .i64 T.quota, .int .i64 T.next, .map (some w.heap.size)] 75) :: (w.heap.size, .map #[] 0) :: S) D (w.heap.size + 1) ⟨w.heap.size, T.quota, T.next, []⟩ w.heap.size :=
    ⟨⟨List.mem_cons_self .., ⟨_, List.mem_cons_of_mem _ (List.mem_cons_self ..), MapO.empty KI⟩, fun p hp => by cases hp⟩, by show ([w.heap.size + 1, w.heap.size] : List Nat).Nodup; simp, fun b hb => by
      have : b ∈ [w.heap.size + 1, w.heap.size] := hb
      simp at this; omega⟩
  obtain ⟨wa, hwa⟩ : ∃ wa, wa = ((w.alloc (.map #[] 0)).alloc (.cells #[.int .i64 T.quota, .int .i64 T.next, .map (some w.heap.size)] 75)).drew := ⟨_, rfl⟩
  have hBa : Below w.heap.size w wa := by
    rw [hwa]
    exact (((Below.refl _ w).alloc (Nat.le_refl _) _).alloc (by simp) _).drew
  rw [← hwa] at hO2
  have hsa : wa.heap.size = w.heap.size + 2 := by rw [hwa]; show ((w.alloc _).alloc _).heap.size = _; simp
  have HA := H.at_.inWorld (hO2.forget (S' := S) fun m hm => List.mem_cons_of_mem _ (List.mem_cons_of_mem _ hm))
  obtain ⟨_, _, b2⟩ := HA.at0
  obtain ⟨oi, o, hrun, hW⟩ := Walks.start HA
  have hWR : WalksR w wa.heap.size T oi o [] T.nodes (wa.alloc oi) := by
    obtain ⟨o2, h1, _⟩ := (H.at_.inWorld hO).map
    have h2 : w.heap[T.bm]? = some o := ((hBa.block _ (lt_of_heap h1)).symm).trans hW.2.1
    exact ⟨hW.1, h2, hW.2.2.1, hW.2.2.2.1, hBa.alloc hBa.size _, hBa.size⟩
  have HR := Lib.hid (show CloneRel w0 S L D T w wa.heap.size (w.heap.size + 1) (wa.alloc oi) from
    ⟨oi, o, [], T.nodes, _, _, hWR, hO2.newB oi, List.mem_cons_self .., hP.mono (fun b x _ hx => List.mem_cons_of_mem _ hx), by
      rw [hsa]
      show w.heap.size + 2 ∉ [w.heap.size + 1, w.heap.size]
      simp, rfl, rfl, rfl, rfl, fun b x hb => List.mem_cons_of_mem _ (List.mem_cons_of_mem _ (List.mem_cons_of_mem _ hb))⟩)
  have HH := Lib.hid (H.at_.inWorld hO)
  have HT := Lib.hid H
  have HO := Lib.hid hO
  clear hO hO1 hO2 hP HA hW H es hsa hBa hWR
  generalize wa.heap.size = r at *
  go_enter Tryz.func23, Tryz.ntmps23
  go_wp2_with fail
  go_region
  rw [← hwa]
  clear hwa a0 a1 a2 c0 c1 c2
  go_wp2_with fail
  go_loopw [] (fun wr => CloneRel w0 S L D T w r (w.heap.size + 1) wr) (fun wr => leftN wr T.bm r)
  case atStart => exact HR.out
  case round =>
    obtain ⟨oi2, o2, done, left, S', T', hW, hO, hr, hP, hrn, hq, hx, hbm, he, hsub⟩ := hrel
    have hle := hW.left_eq
    have hperm := hW.2.2.2.1
    rcases hW.next with ⟨rfl, hn⟩ | ⟨l1, l2, p, oi', w1, rfl, hw1, hn, hW', hp, hen⟩
    · have hS : Same T T' := ⟨hq, hx, by rw [he]; simp only [List.append_nil] at hperm; exact hperm.map _⟩
      have HC := Lib.hid (show CloneAt w0 S L D T w (.returned (.pointer (some ⟨w.heap.size + 1, 0, none⟩))) wr from ⟨_, S', T', rfl, hO, hP.tree hS HT.out.good, hsub, hP.high, hS⟩)
      clear hW hle hperm hO hr hP hrn hq hx he hsub hS
      go_wp2_with fail
      go_ret
      exact HC.out
    · have hO1 : Own ⟨w0, S'⟩ w1 L := by rcases hw1 with rfl | rfl; exact hO; exact hO.drew
      have hO2 := hO1.setB hr oi'
      have hP2 : Part (upd S' r oi') D (w.heap.size + 1) T' w.heap.size := hP.mono (fun b x hb hx => upd_other (b := r) hx (fun e => hrn (e ▸ hb)) oi')
      have hr2 := upd_same hr oi'
      have hsub2 : ∀ b x, (b, x) ∈ S → (b, x) ∈ upd S' r oi' := fun b x hb => upd_other (hsub b x hb) (fun e => by
        have h1 := (HO.out.atLt hb).2
        have h2 := hW'.2.2.2.2.2
        omega) _
      have hNw := (hW'.tree HH.out).node p hp
      have hNs := HT.out.at_.node p hp
      obtain ⟨e1, e2⟩ := hW'.entry
      have hent := hen _ e1 e2
      have hi : p.1 ∉ T'.nodes.map (·.1) := by
        have h1 := congrArg (List.map (·.1)) he
        rw [erL_keys, erL_keys] at h1
        rw [h1]
        exact hW'.key HT.out.good.keys
      have hlen : leftN wr T.bm r = (l1 ++ l2).length + 1 := by rw [hle]; simp; omega
      have hB2 := hW'.2.2.2.2.1
      generalize hw2 : setBlock w1 r oi' = w2 at *
      obtain ⟨fa, fc, hf⟩ := hNw.form
      obtain ⟨d0, d1, d2⟩ := hNw.at0
      rw [hf] at d1
      obtain ⟨_, _, q2⟩ := (hP2.at_.inWorld hO2).at0
      have hA : ∀ (wy : World) (o : Obj), Below w2.heap.size w2 wy → Below w2.heap.size w2 (wy.alloc o) := fun wy o h => h.alloc h.size _
      have HO2 := Lib.hid hO2
      have HP2 := Lib.hid hP2
      have hS : ∀ w', Below w2.heap.size w2 w' → w'.cell? ⟨w.heap.size + 1, 2, none⟩ = some (.map (some T'.bm)) ∧ w'.cell? ⟨p.2.b, 0, none⟩ = some (.map p.2.k) ∧ w'.cell? ⟨p.2.b, 1, none⟩ = some (.slice fa p.2.data.length fc) ∧ w'.cell? ⟨p.2.b, 2, none⟩ = some (.int .i64 p.2.places) := fun w' hb => by
        have hN5 : NodeIn (inW w') D p.2 := hNw.mono (fun b o _ ho => (hb.block _ (lt_of_heap ho)).trans ho) (fun _ _ h => h)
        obtain ⟨g0, g1, g2⟩ := hN5.at0
        rw [hf] at g1
        exact ⟨((HP2.out.at_.inWorld HO2.out).later hb).at0.2.2, g0, g1, g2⟩
      cases hk : p.2.k with
      | some k =>
        rw [hk] at d0
        simp only [hk] at hS
        obtain ⟨o5, hk1, hk2⟩ := hNw.kid k hk
        obtain ⟨es, clock, rfl, hk3⟩ := id hk2
        have hcl := mapclone_any k es clock w2.drew hk1
        obtain ⟨W5, hup, hr5, hl5⟩ := clone_round (c := w.heap.size + 1) HO.out hW' hr2 hrn hq hx hbm he hi hsub2 (add_dir HO2.out HP2.out hi hB2.size hk hk2 hNs.dat hNs.form) (((hB2.alloc hB2.size _).alloc (by simp; have := hB2.size; omega) _).drew)
        rw [hf] at hup
        have HR5 := Lib.hid hr5
        have hS5 : W5.cell? ⟨w.heap.size + 1, 2, none⟩ = some (.map (some T'.bm)) ∧ W5.cell? ⟨p.2.b, 0, none⟩ = some (.map (some k)) ∧ W5.cell? ⟨p.2.b, 1, none⟩ = some (.slice fa p.2.data.length fc) ∧ W5.cell? ⟨p.2.b, 2, none⟩ = some (.int .i64 p.2.places) := by
          obtain ⟨_, _, _, _, S7, T7, x1, x2, _, x3, _, _, _, x4, _⟩ := hr5
          obtain ⟨g0, g1, g2⟩ := ((x1.tree HH.out).node p hp).at0
          rw [hf] at g1
          rw [hk] at g0
          have := (x3.at_.inWorld x2).at0.2.2
          rw [x4.trans hbm.symm] at this
          exact ⟨this, g0, g1, g2⟩
        have HL := Lib.hid (show leftN W5 T.bm r < leftN wr T.bm r by rw [hl5, hlen]; omega)
        clear hO hO1 hO2 hP hP2 hsub hW hW' hNw hNs hen hk3 hk2 hperm hle hr hrn hr2 hsub2 hi e1 e2 hr5 hB2 hl5 hbm hq hx he hlen hk1
        go_wp2_with fail
        go_region_held3 (fun w' : World => w'.cell? ⟨w.heap.size + 1, 2, none⟩ = some (.map (some T'.bm)) ∧ w'.cell? ⟨p.2.b, 0, none⟩ = some (.map (some k)) ∧ w'.cell? ⟨p.2.b, 1, none⟩ = some (.slice fa p.2.data.length fc) ∧ w'.cell? ⟨p.2.b, 2, none⟩ = some (.int .i64 p.2.places)) (first | exact hS5 | exact hS _ (Below.refl _ _) | exact hS _ (Below.refl _ w2).drew | exact hS _ (hA _ _ (Below.refl w2.heap.size w2).drew) | exact hS _ (hA _ _ (hA _ _ (Below.refl w2.heap.size w2).drew))) (first | (go_at_call 56; refine hcl.mono ?_; rintro e w3 ⟨rfl, rfl⟩))
        all_goals go_wp2_with fail
        all_goals go_roundw
        all_goals first | exact HR5.out | exact HL.out
      | none =>
        rw [hk] at d0
        simp only [hk] at hS
        have hcl := mapclone_nil w2.drew
        obtain ⟨W5, hup, hr5, hl5⟩ := clone_round (c := w.heap.size + 1) HO.out hW' hr2 hrn hq hx hbm he hi hsub2 (add_file HO2.out HP2.out hi hB2.size hk (hNs.file hk) hNs.dat hNs.form) ((hB2.alloc hB2.size _).drew)
        rw [hf] at hup
        have HR5 := Lib.hid hr5
        have hS5 : W5.cell? ⟨w.heap.size + 1, 2, none⟩ = some (.map (some T'.bm)) ∧ W5.cell? ⟨p.2.b, 0, none⟩ = some (.map none) ∧ W5.cell? ⟨p.2.b, 1, none⟩ = some (.slice fa p.2.data.length fc) ∧ W5.cell? ⟨p.2.b, 2, none⟩ = some (.int .i64 p.2.places) := by
          obtain ⟨_, _, _, _, S7, T7, x1, x2, _, x3, _, _, _, x4, _⟩ := hr5
          obtain ⟨g0, g1, g2⟩ := ((x1.tree HH.out).node p hp).at0
          rw [hf] at g1
          rw [hk] at g0
          have := (x3.at_.inWorld x2).at0.2.2
          rw [x4.trans hbm.symm] at this
          exact ⟨this, g0, g1, g2⟩
        have HL := Lib.hid (show leftN W5 T.bm r < leftN wr T.bm r by rw [hl5, hlen]; omega)
        clear hO hO1 hO2 hP hP2 hsub hW hW' hNw hNs hen hperm hle hr hrn hr2 hsub2 hi e1 e2 hr5 hB2 hl5 hbm hq hx he hlen
        go_wp2_with fail
        go_region_held3 (fun w' : World => w'.cell? ⟨w.heap.size + 1, 2, none⟩ = some (.map (some T'.bm)) ∧ w'.cell? ⟨p.2.b, 0, none⟩ = some (.map none) ∧ w'.cell? ⟨p.2.b, 1, none⟩ = some (.slice fa p.2.data.length fc) ∧ w'.cell? ⟨p.2.b, 2, none⟩ = some (.int .i64 p.2.places)) (first | exact hS5 | exact hS _ (Below.refl _ _) | exact hS _ (Below.refl _ w2).drew | exact hS _ (hA _ _ (Below.refl w2.heap.size w2).drew)) (first | (go_at_call 56; refine hcl.mono ?_; rintro e w3 ⟨rfl, rfl⟩))
        all_goals go_wp2_with fail
        all_goals go_roundw
        all_goals first | exact HR5.out | exact HL.out
end Go.Proofs.YtamkfadammlhbaaGreatDoor
