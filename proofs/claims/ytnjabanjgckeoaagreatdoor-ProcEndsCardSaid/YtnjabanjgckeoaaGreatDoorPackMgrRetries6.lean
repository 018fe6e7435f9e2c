/- Texts one behind the other, each in a section of its own: what calls make of memory, step by step. -/
import Derived.Test.YtnjabanjgckeoaaGreatDoorPackMgrRetries5
import Derived.Deep.RegionHeld3

/- Clone: the walk. -/
section
namespace Go.Proofs.YtnjabanjgckeoaaGreatDoor
open Go.RowKit
open Go.ChangeMaps (setBlock)
set_option linter.unusedVariables false
set_option linter.unusedSimpArgs false
set_option maxRecDepth 100000

/-- The same tree, but for its blocks and the order of its nodes. -/
structure Same (T T' : Tr) : Prop where
  quota : T'.quota = T.quota
  next : T'.next = T.next
  nodes : (erL T'.nodes).Perm (erL T.nodes)
theorem er_mem {l : List (Int × Nd)} {p : Int × Nd} (h : p ∈ l) : (p.1, p.2.er) ∈ erL l := List.mem_map.2 ⟨p, h, rfl⟩
theorem er_of {l : List (Int × Nd)} {q : Int × ENd} (h : q ∈ erL l) : ∃ p ∈ l, p.1 = q.1 ∧ p.2.er = q.2 := by
  obtain ⟨p, hp, e⟩ := List.mem_map.1 h
  exact ⟨p, hp, by rw [← e], by rw [← e]⟩
theorem erL_keys (l : List (Int × Nd)) : (erL l).map (·.1) = l.map (·.1) := by unfold erL; rw [List.map_map]; rfl
theorem Same.keys {T T' : Tr} (h : Same T T') : (T'.nodes.map (·.1)).Perm (T.nodes.map (·.1)) := by
  have := h.nodes.map (·.1)
  rwa [erL_keys, erL_keys] at this
theorem Same.look {T T' : Tr} (h : Same T T') (G : Good T) (i : Int) : (look T'.nodes i).map Nd.er = (look T.nodes i).map Nd.er := by
  have hk := h.keys
  have hn : (T'.nodes.map (·.1)).Nodup := hk.nodup_iff.2 G.keys
  cases h1 : Go.Proofs.YtnjabanjgckeoaaGreatDoor.look T.nodes i with
  | some n =>
    obtain ⟨p, hp, e1, e2⟩ := er_of (h.nodes.symm.subset (er_mem (look_mem h1)))
    have := look_of_mem hn hp
    rw [show p.1 = i from e1] at this
    rw [this]
    exact congrArg some e2
  | none =>
    cases h2 : Go.Proofs.YtnjabanjgckeoaaGreatDoor.look T'.nodes i with
    | none => rfl
    | some n =>
      obtain ⟨p, hp, e1, e2⟩ := er_of (h.nodes.subset (er_mem (look_mem h2)))
      have := look_of_mem G.keys hp
      rw [show p.1 = i from e1, h1] at this
      cases this
theorem Same.good {T T' : Tr} (h : Same T T') (G : Good T) : Good T' := by
  have hl := fun i => h.look G i
  refine ⟨h.keys.nodup_iff.2 G.keys, ?_, fun p hp q hq => ?_, fun p hp => ?_⟩
  · obtain ⟨n, k, h1, h2⟩ := G.root
    have := hl 1
    rw [h1] at this
    cases h3 : Go.Proofs.YtnjabanjgckeoaaGreatDoor.look T'.nodes 1 with
    | none => rw [h3] at this; cases this
    | some m =>
      rw [h3] at this
      have h4 : m.er = n.er := by injection this
      have h5 : m.k.isSome = n.k.isSome := congrArg ENd.dir h4
      rw [h2] at h5
      cases hk : m.k with
      | none => rw [hk] at h5; cases h5
      | some k' => exact ⟨m, k', rfl, hk⟩
  · obtain ⟨p0, hp0, e1, e2⟩ := er_of (h.nodes.subset (er_mem hp))
    have hkids : p0.2.kids = p.2.kids := congrArg ENd.kids e2
    obtain ⟨n, hn⟩ := G.kids p0 hp0 q (hkids ▸ hq)
    have := hl q.2
    rw [hn] at this
    cases h3 : Go.Proofs.YtnjabanjgckeoaaGreatDoor.look T'.nodes q.2 with
    | none => rw [h3] at this; cases this
    | some m => exact ⟨m, rfl⟩
  · obtain ⟨p0, hp0, e1, e2⟩ := er_of (h.nodes.subset (er_mem hp))
    have := G.low p0 hp0
    rw [show p0.1 = p.1 from e1] at this
    rw [h.next]; exact this
theorem Part.tree {S : Blocks} {D : Value → List Int → Prop} {c B : Nat} {T T' : Tr} (H : Part S D c T' B) (h : Same T T') (G : Good T) : Tree S D c T' := ⟨H.at_, H.apart, h.good G⟩
def CloneAt (w0 : World) (S : Blocks) (L : List Rw) (D : Value → List Int → Prop) (T : Tr) (w : World) (e : Ending) (w' : World) : Prop :=
  ∃ c S' T', e = .returned (.pointer (some ⟨c, 0, none⟩)) ∧ Own ⟨w0, S'⟩ w' L ∧ Tree S' D c T' ∧ (∀ b x, (b, x) ∈ S → (b, x) ∈ S') ∧ (∀ b ∈ c :: T'.foot, w.heap.size ≤ b) ∧ Same T T'
def CloneRel (w0 : World) (S : Blocks) (L : List Rw) (D : Value → List Int → Prop) (T : Tr) (w : World) (r c : Nat) (wr : World) : Prop :=
  ∃ oi o done left S' T', WalksR w r T oi o done left wr ∧ Own ⟨w0, S'⟩ wr L ∧ (r, oi) ∈ S' ∧ Part S' D c T' w.heap.size ∧ r ∉ c :: T'.foot ∧ T'.quota = T.quota ∧ T'.next = T.next ∧ T'.bm = w.heap.size ∧ erL T'.nodes = erL done ∧ (∀ b x, (b, x) ∈ S → (b, x) ∈ S')
theorem clone_round {w0 w w2 W4 : World} {S S2 : Blocks} {L : List Rw} {D : Value → List Int → Prop} {T T' : Tr} {r c b : Nat} {oi' o : Obj} {done l : List (Int × Nd)} {p : Int × Nd} (HO : Own ⟨w0, S⟩ w L) (hW' : WalksR w r T oi' o (done ++ [p]) l w2) (hr2 : (r, oi') ∈ S2) (hrn : r ∉ c :: T'.foot)
    (hq : T'.quota = T.quota) (hx : T'.next = T.next) (hbm : T'.bm = w.heap.size) (he : erL T'.nodes = erL done) (hi : p.1 ∉ T'.nodes.map (·.1)) (hsub2 : ∀ b x, (b, x) ∈ S → (b, x) ∈ S2) (hA : Added w0 S2 L D c w.heap.size T' p.1 p.2 b W4) (hBW : Below w.heap.size w W4) :
    ∃ W5, (Instr.mapUpdate 122 (.map (some T'.bm)) (.int .i64 p.1) (.pointer (some ⟨b, 0, none⟩))).run Tryz.prog W4 = .ok () W5 ∧ CloneRel w0 S L D T w r c W5 ∧ leftN W5 T.bm r = l.length := by
  obtain ⟨o5, S5, n', hup, hO5, hP5, hn, hk5, hf5⟩ := hA
  have hrb : r ≠ T'.bm := fun e => hrn (by rw [e]; exact List.mem_cons_of_mem _ (List.mem_cons_self ..))
  have hr5 := hk5 _ _ hr2 hrb
  have hW5 : WalksR w r T oi' o (done ++ [p]) l (setBlock W4 T'.bm o5) := ⟨hO5.at hr5, hW'.2.1, hW'.2.2.1, hW'.2.2.2.1, below_setBlock hBW (by omega) _, hW'.2.2.2.2.2⟩
  refine ⟨_, hup, ⟨oi', o, _, _, S5, T'.setN p.1 n', hW5, hO5, hr5, hP5, fun hm => ?_, hq, hx, hbm, ?_, fun b x hb => hk5 b x (hsub2 b x hb) fun e => ?_⟩, hW5.left_eq⟩
  · rcases hf5 r hm with h1 | h1
    · exact hrn h1
    · exact h1 _ hr2
  · unfold Tr.setN
    rw [put_new hi]
    unfold erL at he ⊢
    rw [List.map_append, List.map_append, he]
    simp only [List.map_cons, List.map_nil]
    rw [hn]
  · have := (HO.atLt hb).2
    omega
set_option maxHeartbeats 1000000 in
theorem clone_t {w0 w : World} {S : Blocks} {L : List Rw} {D : Value → List Int → Prop} {t : Nat} {T : Tr} (hO : Own ⟨w0, S⟩ w L) (H : Tree S D t T) :
    Calls Tryz.prog 70 #[.pointer (some ⟨t, 0, none⟩)] w (CloneAt w0 S L D T w) := by
  obtain ⟨c0, c1, c2⟩ := (H.at_.inWorld hO).at0
  obtain ⟨a0, a1, a2⟩ := (H.at_.inWorld (hO.alloc (.map #[] 0)).drew).at0
  have hmk : ∀ w, (Instr.makeMap 122 none).run Tryz.prog w = .ok (.map (some w.heap.size)) (w.alloc (.map #[] 0)) := fun w => rfl
  have hO1 := hO.newB (.map #[] 0)
  have hO2 := (hO1.newB (.cells #[.int .i64 T.quota, .int .i64 T.next, .map (some w.heap.size)] 124)).drew
  have es : (w.alloc (.map #[] 0)).heap.size = w.heap.size + 1 := by simp
  rw [es] at hO2
  have hP : Part ((w.heap.size + 1, .cells #[.int .i64 T.quota, .int .i64 T.next, .map (some w.heap.size)] 124) :: (w.heap.size, .map #[] 0) :: S) D (w.heap.size + 1) ⟨w.heap.size, T.quota, T.next, []⟩ w.heap.size :=
    ⟨⟨List.mem_cons_self .., ⟨_, List.mem_cons_of_mem _ (List.mem_cons_self ..), MapO.empty KI⟩, fun p hp => by cases hp⟩, by show ([w.heap.size + 1, w.heap.size] : List Nat).Nodup; simp, fun b hb => by
      have : b ∈ [w.heap.size + 1, w.heap.size] := hb
      simp at this; omega⟩
  obtain ⟨wa, hwa⟩ : ∃ wa, wa = ((w.alloc (.map #[] 0)).alloc (.cells #[.int .i64 T.quota, .int .i64 T.next, .map (some w.heap.size)] 124)).drew := ⟨_, rfl⟩
  have hBa : Below w.heap.size w wa := by
    rw [hwa]
    exact (((Below.refl _ w).alloc (Nat.le_refl _) _).alloc (by simp) _).drew
  rw [← hwa] at hO2
  have hsa : wa.heap.size = w.heap.size + 2 := by rw [hwa]; show ((w.alloc _).alloc _).heap.size = _; simp
  have HA := H.at_.inWorld (hO2.forget (S' := S) fun m hm => List.mem_cons_of_mem _ (List.mem_cons_of_mem _ hm))
  obtain ⟨_, _, b2⟩ := HA.at0
  obtain ⟨oi, o, hrun, hW⟩ := Walks.start HA
  have hWR : WalksR w wa.heap.size T oi o [] T.nodes (wa.alloc oi) := by
    obtain ⟨o2, h1, _⟩ := (H.at_.inWorld hO).map
    have h2 : w.heap[T.bm]? = some o := ((hBa.block _ (lt_of_heap h1)).symm).trans hW.2.1
    exact ⟨hW.1, h2, hW.2.2.1, hW.2.2.2.1, hBa.alloc hBa.size _, hBa.size⟩
  have HR := Lib.hid (show CloneRel w0 S L D T w wa.heap.size (w.heap.size + 1) (wa.alloc oi) from
    ⟨oi, o, [], T.nodes, _, _, hWR, hO2.newB oi, List.mem_cons_self .., hP.mono (fun b x _ hx => List.mem_cons_of_mem _ hx), by
      rw [hsa]
      show w.heap.size + 2 ∉ [w.heap.size + 1, w.heap.size]
      simp, rfl, rfl, rfl, rfl, fun b x hb => List.mem_cons_of_mem _ (List.mem_cons_of_mem _ (List.mem_cons_of_mem _ hb))⟩)
  have HH := Lib.hid (H.at_.inWorld hO)
  have HT := Lib.hid H
  have HO := Lib.hid hO
  clear hO hO1 hO2 hP HA hW H es hsa hBa hWR
  generalize wa.heap.size = r at *
  go_enter Tryz.func70, Tryz.ntmps70
  go_wp2_with fail
  go_region
  rw [← hwa]
  clear hwa a0 a1 a2 c0 c1 c2
  go_wp2_with fail
  go_loopw [] (fun wr => CloneRel w0 S L D T w r (w.heap.size + 1) wr) (fun wr => leftN wr T.bm r)
  case atStart => exact HR.out
  case round =>
    obtain ⟨oi2, o2, done, left, S', T', hW, hO, hr, hP, hrn, hq, hx, hbm, he, hsub⟩ := hrel
    have hle := hW.left_eq
    have hperm := hW.2.2.2.1
    rcases hW.next with ⟨rfl, hn⟩ | ⟨l1, l2, p, oi', w1, rfl, hw1, hn, hW', hp, hen⟩
    · have hS : Same T T' := ⟨hq, hx, by rw [he]; simp only [List.append_nil] at hperm; exact hperm.map _⟩
      have HC := Lib.hid (show CloneAt w0 S L D T w (.returned (.pointer (some ⟨w.heap.size + 1, 0, none⟩))) wr from ⟨_, S', T', rfl, hO, hP.tree hS HT.out.good, hsub, hP.high, hS⟩)
      clear hW hle hperm hO hr hP hrn hq hx he hsub hS
      go_wp2_with fail
      go_ret
      exact HC.out
    · have hO1 : Own ⟨w0, S'⟩ w1 L := by rcases hw1 with rfl | rfl; exact hO; exact hO.drew
      have hO2 := hO1.setB hr oi'
      have hP2 : Part (upd S' r oi') D (w.heap.size + 1) T' w.heap.size := hP.mono (fun b x hb hx => upd_other (b := r) hx (fun e => hrn (e ▸ hb)) oi')
      have hr2 := upd_same hr oi'
      have hsub2 : ∀ b x, (b, x) ∈ S → (b, x) ∈ upd S' r oi' := fun b x hb => upd_other (hsub b x hb) (fun e => by
        have h1 := (HO.out.atLt hb).2
        have h2 := hW'.2.2.2.2.2
        omega) _
      have hNw := (hW'.tree HH.out).node p hp
      have hNs := HT.out.at_.node p hp
      obtain ⟨e1, e2⟩ := hW'.entry
      have hent := hen _ e1 e2
      have hi : p.1 ∉ T'.nodes.map (·.1) := by
        have h1 := congrArg (List.map (·.1)) he
        rw [erL_keys, erL_keys] at h1
        rw [h1]
        exact hW'.key HT.out.good.keys
      have hlen : leftN wr T.bm r = (l1 ++ l2).length + 1 := by rw [hle]; simp; omega
      have hB2 := hW'.2.2.2.2.1
      generalize hw2 : setBlock w1 r oi' = w2 at *
      obtain ⟨fa, fc, hf⟩ := hNw.form
      obtain ⟨d0, d1, d2⟩ := hNw.at0
      rw [hf] at d1
      obtain ⟨_, _, q2⟩ := (hP2.at_.inWorld hO2).at0
      have hA : ∀ (wy : World) (o : Obj), Below w2.heap.size w2 wy → Below w2.heap.size w2 (wy.alloc o) := fun wy o h => h.alloc h.size _
      have HO2 := Lib.hid hO2
      have HP2 := Lib.hid hP2
      have hS : ∀ w', Below w2.heap.size w2 w' → w'.cell? ⟨w.heap.size + 1, 2, none⟩ = some (.map (some T'.bm)) ∧ w'.cell? ⟨p.2.b, 0, none⟩ = some (.map p.2.k) ∧ w'.cell? ⟨p.2.b, 1, none⟩ = some (.slice fa p.2.data.length fc) ∧ w'.cell? ⟨p.2.b, 2, none⟩ = some (.int .i64 p.2.places) := fun w' hb => by
        have hN5 : NodeIn (inW w') D p.2 := hNw.mono (fun b o _ ho => (hb.block _ (lt_of_heap ho)).trans ho) (fun _ _ h => h)
        obtain ⟨g0, g1, g2⟩ := hN5.at0
        rw [hf] at g1
        exact ⟨((HP2.out.at_.inWorld HO2.out).later hb).at0.2.2, g0, g1, g2⟩
      cases hk : p.2.k with
      | some k =>
        rw [hk] at d0
        simp only [hk] at hS
        obtain ⟨o5, hk1, hk2⟩ := hNw.kid k hk
        obtain ⟨es, clock, rfl, hk3⟩ := id hk2
        have hcl := mapclone_any k es clock w2.drew hk1
        obtain ⟨W5, hup, hr5, hl5⟩ := clone_round (c := w.heap.size + 1) HO.out hW' hr2 hrn hq hx hbm he hi hsub2 (add_dir HO2.out HP2.out hi hB2.size hk hk2 hNs.dat hNs.form) (((hB2.alloc hB2.size _).alloc (by simp; have := hB2.size; omega) _).drew)
        rw [hf] at hup
        have HR5 := Lib.hid hr5
        have hS5 : W5.cell? ⟨w.heap.size + 1, 2, none⟩ = some (.map (some T'.bm)) ∧ W5.cell? ⟨p.2.b, 0, none⟩ = some (.map (some k)) ∧ W5.cell? ⟨p.2.b, 1, none⟩ = some (.slice fa p.2.data.length fc) ∧ W5.cell? ⟨p.2.b, 2, none⟩ = some (.int .i64 p.2.places) := by
          obtain ⟨_, _, _, _, S7, T7, x1, x2, _, x3, _, _, _, x4, _⟩ := hr5
          obtain ⟨g0, g1, g2⟩ := ((x1.tree HH.out).node p hp).at0
          rw [hf] at g1
          rw [hk] at g0
          have := (x3.at_.inWorld x2).at0.2.2
          rw [x4.trans hbm.symm] at this
          exact ⟨this, g0, g1, g2⟩
        have HL := Lib.hid (show leftN W5 T.bm r < leftN wr T.bm r by rw [hl5, hlen]; omega)
        clear hO hO1 hO2 hP hP2 hsub hW hW' hNw hNs hen hk3 hk2 hperm hle hr hrn hr2 hsub2 hi e1 e2 hr5 hB2 hl5 hbm hq hx he hlen hk1
        go_wp2_with fail
        go_region_held3 (fun w' : World => w'.cell? ⟨w.heap.size + 1, 2, none⟩ = some (.map (some T'.bm)) ∧ w'.cell? ⟨p.2.b, 0, none⟩ = some (.map (some k)) ∧ w'.cell? ⟨p.2.b, 1, none⟩ = some (.slice fa p.2.data.length fc) ∧ w'.cell? ⟨p.2.b, 2, none⟩ = some (.int .i64 p.2.places)) (first | exact hS5 | exact hS _ (Below.refl _ _) | exact hS _ (Below.refl _ w2).drew | exact hS _ (hA _ _ (Below.refl w2.heap.size w2).drew) | exact hS _ (hA _ _ (hA _ _ (Below.refl w2.heap.size w2).drew))) (first | (go_at_call 102; refine hcl.mono ?_; rintro e w3 ⟨rfl, rfl⟩))
        all_goals go_wp2_with fail
        all_goals go_roundw
        all_goals first | exact HR5.out | exact HL.out
      | none =>
        rw [hk] at d0
        simp only [hk] at hS
        have hcl := mapclone_nil w2.drew
        obtain ⟨W5, hup, hr5, hl5⟩ := clone_round (c := w.heap.size + 1) HO.out hW' hr2 hrn hq hx hbm he hi hsub2 (add_file HO2.out HP2.out hi hB2.size hk (hNs.file hk) hNs.dat hNs.form) ((hB2.alloc hB2.size _).drew)
        rw [hf] at hup
        have HR5 := Lib.hid hr5
        have hS5 : W5.cell? ⟨w.heap.size + 1, 2, none⟩ = some (.map (some T'.bm)) ∧ W5.cell? ⟨p.2.b, 0, none⟩ = some (.map none) ∧ W5.cell? ⟨p.2.b, 1, none⟩ = some (.slice fa p.2.data.length fc) ∧ W5.cell? ⟨p.2.b, 2, none⟩ = some (.int .i64 p.2.places) := by
          obtain ⟨_, _, _, _, S7, T7, x1, x2, _, x3, _, _, _, x4, _⟩ := hr5
          obtain ⟨g0, g1, g2⟩ := ((x1.tree HH.out).node p hp).at0
          rw [hf] at g1
          rw [hk] at g0
          have := (x3.at_.inWorld x2).at0.2.2
          rw [x4.trans hbm.symm] at this
          exact ⟨this, g0, g1, g2⟩
        have HL := Lib.hid (show leftN W5 T.bm r < leftN wr T.bm r by rw [hl5, hlen]; omega)
        clear hO hO1 hO2 hP hP2 hsub hW hW' hNw hNs hen hperm hle hr hrn hr2 hsub2 hi e1 e2 hr5 hB2 hl5 hbm hq hx he hlen
        go_wp2_with fail
        go_region_held3 (fun w' : World => w'.cell? ⟨w.heap.size + 1, 2, none⟩ = some (.map (some T'.bm)) ∧ w'.cell? ⟨p.2.b, 0, none⟩ = some (.map none) ∧ w'.cell? ⟨p.2.b, 1, none⟩ = some (.slice fa p.2.data.length fc) ∧ w'.cell? ⟨p.2.b, 2, none⟩ = some (.int .i64 p.2.places)) (first | exact hS5 | exact hS _ (Below.refl _ _) | exact hS _ (Below.refl _ w2).drew | exact hS _ (hA _ _ (Below.refl w2.heap.size w2).drew)) (first | (go_at_call 102; refine hcl.mono ?_; rintro e w3 ⟨rfl, rfl⟩))
        all_goals go_wp2_with fail
        all_goals go_roundw
        all_goals first | exact HR5.out | exact HL.out
end Go.Proofs.YtnjabanjgckeoaaGreatDoor
end

/- grow: what comes new. -/
section
namespace Go.Proofs.YtnjabanjgckeoaaGreatDoor
open Go.RowKit
open Go.ChangeMaps (setBlock)
set_option linter.unusedVariables false
set_option linter.unusedSimpArgs false
set_option maxRecDepth 100000

theorem Tree.mono {S S2 : Blocks} {D D2 : Value → List Int → Prop} {t : Nat} {T : Tr} (H : Tree S D t T) (hS : ∀ b x, b ∈ t :: T.foot → (b, x) ∈ S → (b, x) ∈ S2) (hD : ∀ v zs, D v zs → D2 v zs) : Tree S2 D2 t T :=
  ⟨H.at_.mono (fun b x hb hx => hS b x hb hx) hD, H.apart, H.good⟩
theorem Tree.setNext {S : Blocks} {D : Value → List Int → Prop} {t : Nat} {T : Tr} (H : Tree S D t T) (m : Int) (hm : T.next ≤ m) : Tree (upd S t (.cells (treeCells { T with next := m }) 124)) D t { T with next := m } := by
  have ht : t ∉ T.foot := (List.nodup_cons.1 H.apart).1
  obtain ⟨o, h1, h2⟩ := H.at_.map
  refine ⟨⟨upd_same H.at_.cells _, ⟨o, upd_other (b := t) h1 (fun e => ht (e ▸ List.mem_cons_self ..)) _, h2⟩, fun p hp => ?_⟩, H.apart, ⟨H.good.keys, H.good.root, H.good.kids, fun p hp => ?_⟩⟩
  · exact (H.at_.node p hp).mono (fun b x hb hx => upd_other (b := t) hx (fun e => ht (e ▸ foot_mem hp hb)) _) (fun _ _ h => h)
  · have := H.good.low p hp
    exact ⟨this.1, this.2.imp id fun h => Int.lt_of_lt_of_le h hm⟩
theorem Tree.addN {S S2 : Blocks} {D : Value → List Int → Prop} {t N : Nat} {T : Tr} (H : Tree S D t T) {i : Int} (hi : look T.nodes i = none) (hi1 : 1 ≤ i) (hi2 : i < T.next) {n : Nd} {o : Obj} (ho : MapO KI o (put (nodesV T) i (.pointer (some ⟨n.b, 0, none⟩))))
    (hS : ∀ b x, (b, x) ∈ S → b ≠ T.bm → (b, x) ∈ S2) (hbm : (T.bm, o) ∈ S2) (hN : NodeIn (inS S2) D n) (hlow : ∀ b ∈ t :: T.foot, b < N) (hnew : ∀ b ∈ n.foot, N ≤ b) (hnd : n.foot.Nodup) (hkids : n.kids = []) : Tree S2 D t (T.setN i n) := by
  have hk : i ∉ T.nodes.map (·.1) := fun hm => by
    obtain ⟨v, hv⟩ := look_some_of_key hm
    rw [hi] at hv; cases hv
  have hP := Part.add (B := 0) ⟨H.at_, H.apart, fun b _ => Nat.zero_le b⟩ hk ho hS hbm hN hlow (fun b hb => ⟨hnew b hb, Nat.zero_le b⟩) hnd
  have hl : ∀ j m, look T.nodes j = some m → ∃ m', look (T.setN i n).nodes j = some m' := fun j m hj => by
    unfold Tr.setN; rw [look_put]
    split
    · exact ⟨_, rfl⟩
    · exact ⟨m, hj⟩
  have hmem : ∀ p ∈ (T.setN i n).nodes, p ∈ T.nodes ∨ p = (i, n) := fun p hp => by
    unfold Tr.setN at hp; rw [put_new hk] at hp
    rcases List.mem_append.1 hp with h | h
    · exact .inl h
    · exact .inr (List.mem_singleton.1 h)
  refine ⟨hP.at_, hP.apart, ⟨?_, ?_, fun p hp q hq => ?_, fun p hp => ?_⟩⟩
  · unfold Tr.setN; rw [put_new hk, List.map_append]
    exact List.nodup_append.2 ⟨H.good.keys, by simp, fun a ha b hb e => by simp at hb; subst hb; exact hk (e ▸ ha)⟩
  · obtain ⟨r, k, h3, h4⟩ := H.good.root
    have hne : (1 : Int) ≠ i := fun e => by rw [← e, h3] at hi; cases hi
    refine ⟨r, k, ?_, h4⟩
    unfold Tr.setN; rw [look_put, if_neg hne]; exact h3
  · rcases hmem p hp with h | rfl
    · obtain ⟨m, hm⟩ := H.good.kids p h q hq
      exact hl _ _ hm
    · have hq' : q ∈ n.kids := hq
      rw [hkids] at hq'; cases hq'
  · rcases hmem p hp with h | rfl
    · exact H.good.low p h
    · exact ⟨hi1, .inr hi2⟩
theorem fresh_none {T : Tr} (G : Good T) (h2 : 2 ≤ T.next) : look T.nodes T.next = none := by
  cases h : look T.nodes T.next with
  | none => rfl
  | some n => rcases (G.low _ (look_mem h)).2 with h3 | h3
              · have h3 : T.next = 1 := h3; omega
              · exact absurd h3 (Int.lt_irrefl _)
abbrev opL (kind : Int) (p q : ByteArray) (v : Value) : List Value := [.int .i64 kind, .string p, .string q, v]
def mkdirT (T : Tr) (j : Int) (nd : Nd) (name : ByteArray) (n : Nd) : Tr := (({ T with next := T.next + 1 } : Tr).setN T.next n).setN j { nd with kids := put nd.kids name T.next }
/-- What becomes of memory where a tree turns: rows may be added. -/
def DoL (w0 : World) (S : Blocks) (L : List Rw) (t : Nat) (T : Tr) (w : World) (R : Tr → Prop) (r : Value) (e : Ending) (w' : World) : Prop :=
  ∃ S' L' T', e = .returned r ∧ Own ⟨w0, S'⟩ w' L' ∧ (∀ x ∈ L, x ∈ L') ∧ Tree S' (Pc L') t T' ∧ Frame S S' (t :: T.foot) (t :: T'.foot) w.heap.size ∧ R T'
set_option maxHeartbeats 2000000 in
theorem growDir_any {w0 w : World} {S : Blocks} {L : List Rw} {t : Nat} {T : Tr} (hO : Own ⟨w0, S⟩ w L) (H : Tree S (Pc L) t T) {j : Int} {nd : Nd} {k : Nat} (hj : look T.nodes j = some nd) (hk : nd.k = some k) (name : ByteArray)
    (p q : ByteArray) (v : Value) (hv : ∃ a n c, v = .slice a n c) (hn1 : 2 ≤ T.next) (hn2 : T.next ≤ 1000000000) :
    Calls Tryz.prog 137 #[.pointer (some ⟨t, 0, none⟩), .agg #[.pointer (some ⟨nd.b, 0, none⟩), .string name], .agg (opL 0 p q v).toArray] w
      (DoL w0 S L t T w (fun T' => ∃ n : Nd, n.er = ⟨true, [], [], 0⟩ ∧ T' = mkdirT T j nd name n) (.tuple #[])) := by
  obtain ⟨va, vn, vc, rfl⟩ := hv
  have hO2 := (hO.newB (.cells #[.pointer (some ⟨nd.b, 0, none⟩), .string name] 226)).newB (.cells #[.int .i64 0, .string p, .string q, .slice va vn vc] 84)
  rw [show (w.alloc (.cells #[.pointer (some ⟨nd.b, 0, none⟩), .string name] 226)).heap.size = w.heap.size + 1 by simp] at hO2
  obtain ⟨w2, hw2⟩ : ∃ w2, w2 = (w.alloc (.cells #[.pointer (some ⟨nd.b, 0, none⟩), .string name] 226)).alloc (.cells #[.int .i64 0, .string p, .string q, .slice va vn vc] 84) := ⟨_, rfl⟩
  rw [← hw2] at hO2
  have hsz2 : w2.heap.size = w.heap.size + 2 := by rw [hw2]; simp
  have hlow : ∀ b ∈ t :: T.foot, b < w.heap.size := fun b hb => by
    obtain ⟨x, hx⟩ := kept_in H.at_ b hb
    exact (hO.atLt hx).2
  have H2 := H.mono (D2 := Pc L) (S2 := (w.heap.size + 1, .cells #[.int .i64 0, .string p, .string q, .slice va vn vc] 84) :: (w.heap.size, .cells #[.pointer (some ⟨nd.b, 0, none⟩), .string name] 226) :: S) (fun b x _ hx => List.mem_cons_of_mem _ (List.mem_cons_of_mem _ hx)) (fun _ _ h => h)
  have ht := hlow t (List.mem_cons_self ..)
  -- the next number
  have c1 : w2.cell? ⟨t, 1, none⟩ = some (.int .i64 T.next) := (H2.at_.inWorld hO2).at0.2.1
  have fz1 : w2.frozen? ⟨t, 1, none⟩ = false := free_at (hO2.at H2.at_.cells) 1
  have k0 : w2.cell? ⟨w.heap.size + 1, 0, none⟩ = some (.int .i64 0) := by rw [hO2.cellB (List.mem_cons_self ..)]; rfl
  have hO3 := hO2.storeB H2.at_.cells 1 (.int .i64 (T.next + 1))
  have H3 := H2.setNext (T.next + 1) (by omega)
  have m0 : (w.heap.size + 1, Obj.cells #[.int .i64 0, .string p, .string q, .slice va vn vc] 84) ∈ upd ((w.heap.size + 1, .cells #[.int .i64 0, .string p, .string q, .slice va vn vc] 84) :: (w.heap.size, .cells #[.pointer (some ⟨nd.b, 0, none⟩), .string name] 226) :: S) t (.cells (treeCells { T with next := T.next + 1 }) 124) := upd_other (List.mem_cons_self ..) (by omega) _
  have m1 : (w.heap.size, Obj.cells #[.pointer (some ⟨nd.b, 0, none⟩), .string name] 226) ∈ upd ((w.heap.size + 1, .cells #[.int .i64 0, .string p, .string q, .slice va vn vc] 84) :: (w.heap.size, .cells #[.pointer (some ⟨nd.b, 0, none⟩), .string name] 226) :: S) t (.cells (treeCells { T with next := T.next + 1 }) 124) := upd_other (List.mem_cons_of_mem _ (List.mem_cons_self ..)) (by omega) _
  have hkeep3 : ∀ b x, (b, x) ∈ S → b ∉ t :: T.foot → (b, x) ∈ upd ((w.heap.size + 1, .cells #[.int .i64 0, .string p, .string q, .slice va vn vc] 84) :: (w.heap.size, .cells #[.pointer (some ⟨nd.b, 0, none⟩), .string name] 226) :: S) t (.cells (treeCells { T with next := T.next + 1 }) 124) := fun b x hb hnb => upd_other (List.mem_cons_of_mem _ (List.mem_cons_of_mem _ hb)) (fun e => hnb (e ▸ List.mem_cons_self ..)) _
  obtain ⟨w3, hw3⟩ : ∃ w3, w3 = w2.setCell ⟨t, 1, none⟩ (.int .i64 (T.next + 1)) := ⟨_, rfl⟩
  change Own ⟨w0, upd _ t (.cells (treeCells { T with next := T.next + 1 }) 124)⟩ _ L at hO3
  rw [← hw3] at hO3
  have hsz3 : w3.heap.size = w.heap.size + 2 := by rw [hw3, ← hsz2]; simp
  generalize upd ((w.heap.size + 1, Obj.cells #[.int .i64 0, .string p, .string q, .slice va vn vc] 84) :: (w.heap.size, Obj.cells #[.pointer (some ⟨nd.b, 0, none⟩), .string name] 226) :: S) t (.cells (treeCells { T with next := T.next + 1 }) 124) = S3 at *
  -- the new directory
  have hO4 := ((hO3.drew.newB (.map #[] 0)).newB (.cells #[.map (some w3.heap.size), .slice none 0 0, .int .i64 0] 120))
  rw [show (w3.drew.alloc (.map #[] 0)).heap.size = w3.heap.size + 1 by simp] at hO4
  have hnd := newDir_any w3.drew
  obtain ⟨w4, hw4⟩ : ∃ w4, w4 = (w3.drew.alloc (.map #[] 0)).alloc (.cells #[.map (some w3.heap.size), .slice none 0 0, .int .i64 0] 120) := ⟨_, rfl⟩
  change Calls Tryz.prog 174 #[] w3.drew (fun e w' => e = .returned (.pointer (some ⟨w3.heap.size + 1, 0, none⟩)) ∧ w' = (w3.drew.alloc (.map #[] 0)).alloc (.cells #[.map (some w3.heap.size), .slice none 0 0, .int .i64 0] 120)) at hnd
  rw [← hw4] at hnd
  change Own ⟨w0, (w3.heap.size + 1, _) :: (w3.heap.size, Obj.map #[] 0) :: S3⟩ ((w3.drew.alloc (.map #[] 0)).alloc (.cells #[.map (some w3.heap.size), .slice none 0 0, .int .i64 0] 120)) L at hO4
  rw [← hw4] at hO4
  rw [hsz3] at hO4 hnd
  -- it stands in the map of nodes
  obtain ⟨o1, x1, x2⟩ := H3.at_.map
  have x1' := List.mem_cons_of_mem (w.heap.size + 2 + 1, Obj.cells #[.map (some (w.heap.size + 2)), .slice none 0 0, .int .i64 0] 120) (List.mem_cons_of_mem (w.heap.size + 2, Obj.map #[] 0) x1)
  obtain ⟨o2, hup1, x3⟩ := x2.update kindsI Tryz.underlying122 (hO4.at x1') T.next (.pointer (some ⟨w.heap.size + 2 + 1, 0, none⟩))
  have hO5 := hO4.setB x1' o2
  have hbmlt : T.bm < w.heap.size := hlow _ (List.mem_cons_of_mem _ (List.mem_cons_self ..))
  have hbm3 : ({ T with next := T.next + 1 } : Tr).bm = T.bm := rfl
  have hkeep5 : ∀ b x, (b, x) ∈ S3 → b ≠ T.bm → (b, x) ∈ upd ((w.heap.size + 2 + 1, Obj.cells #[.map (some (w.heap.size + 2)), .slice none 0 0, .int .i64 0] 120) :: (w.heap.size + 2, Obj.map #[] 0) :: S3) T.bm o2 := fun b x hb hne => upd_other (List.mem_cons_of_mem _ (List.mem_cons_of_mem _ hb)) hne _
  have H5 := H3.addN (i := T.next) (n := newNd (w.heap.size + 2)) (N := w.heap.size + 2) (fresh_none H.good hn1) (by show (1 : Int) ≤ T.next; omega) (by show T.next < T.next + 1; omega) x3 hkeep5 (upd_same x1' o2) ⟨upd_other (List.mem_cons_self ..) (by show w.heap.size + 2 + 1 ≠ T.bm; omega) _, fun k2 hk2 => by
      have hk3 : w.heap.size + 2 = k2 := by injection hk2
      subst hk3
      exact ⟨.map #[] 0, upd_other (List.mem_cons_of_mem _ (List.mem_cons_self ..)) (by omega) _, MapO.empty KS⟩, (fun h => by cases h), Pc.nil L, ⟨none, 0, rfl⟩⟩
    (fun b hb => by have := hlow b hb; omega) (fun b hb => by
      have : b ∈ [w.heap.size + 2 + 1, w.heap.size + 2] := hb
      simp at this; omega) (by show ([w.heap.size + 2 + 1, w.heap.size + 2] : List Nat).Nodup; simp) rfl
  obtain ⟨w5, hw5⟩ : ∃ w5, w5 = setBlock w4 T.bm o2 := ⟨_, rfl⟩
  rw [← hw5] at hO5 hup1
  have m1' := hkeep5 _ _ m1 (by omega)
  have hkeepA : ∀ b x, (b, x) ∈ S → b ∉ t :: T.foot → (b, x) ∈ upd ((w.heap.size + 2 + 1, Obj.cells #[.map (some (w.heap.size + 2)), .slice none 0 0, .int .i64 0] 120) :: (w.heap.size + 2, Obj.map #[] 0) :: S3) T.bm o2 := fun b x hb hnb => hkeep5 b x (hkeep3 b x hb hnb) (fun e => hnb (e ▸ List.mem_cons_of_mem _ (List.mem_cons_self ..)))
  generalize upd ((w.heap.size + 2 + 1, Obj.cells #[.map (some (w.heap.size + 2)), .slice none 0 0, .int .i64 0] 120) :: (w.heap.size + 2, Obj.map #[] 0) :: S3) T.bm o2 = S5 at *
  have hO6 := hO5.drew
  -- and at its name
  have hne : j ≠ T.next := fun e => by have := (H.good.low _ (look_mem hj)).2; simp at this; omega
  have hj5 : look (({ T with next := T.next + 1 } : Tr).setN T.next (newNd (w.heap.size + 2))).nodes j = some nd := by unfold Tr.setN; rw [look_put, if_neg hne]; exact hj
  have hN5 := H5.at_.node _ (look_mem hj5)
  obtain ⟨o3, y1, y2⟩ := hN5.kid k hk
  obtain ⟨o4, hup2, y3⟩ := y2.update (w := w5.drew) kindsS Tryz.underlying28 (hO6.at y1) name (.int .i64 T.next)
  rw [put_kidsV] at y3
  have hO7 := hO6.setB y1 o4
  have H7 := H5.setKids hj5 hk y3 (fun q hq => by
    rcases mem_putk hq with rfl | hq
    · exact ⟨newNd (w.heap.size + 2), by unfold Tr.setN; rw [look_put, if_pos rfl]⟩
    · exact H5.good.kids _ (look_mem hj5) q hq)
  have hfr : Frame S (upd S5 k o4) (t :: T.foot) (t :: (mkdirT T j nd name (newNd (w.heap.size + 2))).foot) w.heap.size := by
    have hnk : T.next ∉ T.nodes.map (·.1) := fun hm => by
      obtain ⟨v, hv⟩ := look_some_of_key hm
      rw [fresh_none H.good hn1] at hv; cases hv
    have e : (mkdirT T j nd name (newNd (w.heap.size + 2))).foot = T.foot ++ [w.heap.size + 2 + 1, w.heap.size + 2] :=
      (setN_foot (n' := { nd with kids := put nd.kids name T.next }) hj5 rfl rfl).trans (foot_put (T := { T with next := T.next + 1 }) hnk)
    refine ⟨fun b x hb hnb => upd_other (hkeepA b x hb hnb) (fun e => hnb (e ▸ List.mem_cons_of_mem _ ((foot_node hj).2 k hk))) _, fun b hb => ?_⟩
    rw [e, ← List.cons_append] at hb
    rcases List.mem_append.1 hb with hb | hb
    · exact .inl hb
    · simp at hb; right; omega
  have HP := Lib.hid (show DoL w0 S L t T w (fun T' => ∃ n : Nd, n.er = ⟨true, [], [], 0⟩ ∧ T' = mkdirT T j nd name n) (.tuple #[]) (.returned (.tuple #[])) (setBlock w5.drew k o4) from ⟨_, L, _, rfl, hO7, fun _ h => h, H7, hfr, _, rfl, rfl⟩)
  have k3 : w3.cell? ⟨w.heap.size + 1, 0, none⟩ = some (.int .i64 0) := by rw [hO3.cellB m0]; rfl
  rw [hw3, hw2] at k3
  rw [hw2] at c1 fz1 k0
  have c2 : w3.drew.cell? ⟨t, 2, none⟩ = some (.map (some T.bm)) := (H3.at_.inWorld hO3.drew).at0.2.2
  have c4 : w4.cell? ⟨t, 2, none⟩ = some (.map (some T.bm)) := by rw [hO4.cellB (List.mem_cons_of_mem _ (List.mem_cons_of_mem _ H3.at_.cells))]; rfl
  have c5 : w5.cell? ⟨t, 2, none⟩ = some (.map (some T.bm)) := (H5.at_.inWorld hO5).at0.2.2
  have p0 : w5.drew.cell? ⟨w.heap.size, 0, none⟩ = some (.pointer (some ⟨nd.b, 0, none⟩)) := by rw [hO6.cellB m1']; rfl
  have p1 : w5.drew.cell? ⟨w.heap.size, 1, none⟩ = some (.string name) := by rw [hO6.cellB m1']; rfl
  have n0 : w5.drew.cell? ⟨nd.b, 0, none⟩ = some (.map (some k)) := by rw [hO6.cellB hN5.cells 0, ← hk]; rfl
  have hwr : IntKind.i64.wrap (T.next + 1) = T.next + 1 := IntWalk.i64_in _ (by omega)
  clear hO hO2 hO3 hO4 hO5 hO6 hO7 H H2 H3 H5 H7 hN5 hfr hlow hkeep3 hkeep5 hkeepA m0 m1 m1' hj hj5 hne hk x1 x1' x2 x3 y1 y2 y3 hbm3 hw4 hsz2 ht hsz3 hbmlt hw5
  have hnd' : Calls Tryz.prog 174 #[] w3.drew (fun e w' => e = .returned (.pointer (some ⟨w.heap.size + 2 + 1, 0, none⟩)) ∧ w4 = w') := hnd.mono fun e w' h => ⟨h.1, h.2.symm⟩
  clear hnd
  go_enter Tryz.func137, Tryz.ntmps137
  go_wp2_with fail
  rw [← hw2, ← hw3]
  clear hw2 hw3 k0 k3 c1 fz1
  go_region_held3 (fun w' : World => w'.cell? ⟨t, 2, none⟩ = some (.map (some T.bm))) (first | exact c2 | exact c4 | exact c5) (first | (go_at_call 174; refine hnd'.mono ?_; rintro e w' ⟨rfl, rfl⟩))
  all_goals go_wp2_with fail
  all_goals go_still_tail 8, (by kernel_rfl)
  all_goals go_wp2_with fail
  trace_state
  all_goals refine bodyPost_end (v := .tuple #[]) ?_ rfl HP.out
  all_goals simp [results, Tryz.results137, go_sem]
end Go.Proofs.YtnjabanjgckeoaaGreatDoor
end

/- grow, of a file. -/
section
namespace Go.Proofs.YtnjabanjgckeoaaGreatDoor
open Go.RowKit
open Go.ChangeMaps (setBlock)
set_option linter.unusedVariables false
set_option linter.unusedSimpArgs false
set_option maxRecDepth 100000

theorem Frame.trans {S S2 S3 : Blocks} {F F2 F3 : List Nat} {n m : Nat} (h : Frame S S2 F F2 n) (k : Frame S2 S3 F2 F3 m) (hnm : n ≤ m) (hlt : ∀ b x, (b, x) ∈ S → b < n) : Frame S S3 F F3 n := by
  refine ⟨fun b x hb hnb => k.kept b x (h.kept b x hb hnb) fun h2 => ?_, fun b hb => ?_⟩
  · rcases h.fresh b h2 with h3 | h3
    · exact hnb h3
    · have := hlt b x hb; omega
  · rcases k.fresh b hb with h3 | h3
    · exact h.fresh b h3
    · right; omega
/-- Bytes that were handed in: they lie where nothing is turned, in a row of the law's, or in a block of the law's that is no tree's. -/
def Byo (w0 : World) (S : Blocks) (F : List Nat) (L : List Rw) (v : Value) (zs : List Int) : Prop := Pc L v zs ∨ By w0 v zs ∨
  ∃ b C T mk, (b, Obj.cells C T mk) ∈ S ∧ b ∉ F ∧ v = .slice (some ⟨b, 0, none⟩) zs.length zs.length ∧ C.toList = bs zs ∧ Byts zs ∧ zs.length ≤ 1000
theorem block_by {w : World} {b : Nat} {C : Array Value} {T : TypeId} {mk : Nat × Nat} {zs : List Int} (hb : w.heap[b]? = some (.cells C T mk)) (hC : C.toList = bs zs) (hz : Byts zs) (hl : zs.length ≤ 1000) : By w (.slice (some ⟨b, 0, none⟩) zs.length zs.length) zs := by
  refine ⟨.inr ⟨_, _, rfl, fun j u hj => ?_, bs_one zs⟩, hz, _, _, rfl, Nat.le_refl _, by unfold maxLen; omega⟩
  rw [Addr.add_mid, Nat.zero_add]
  unfold World.cell?
  rw [hb]
  show C[j]? = _
  rw [← Array.getElem?_toList, hC]; exact hj
theorem Byo.by {w0 w : World} {S S' : Blocks} {F : List Nat} {L : List Rw} {v : Value} {zs : List Int} (h : Byo w0 S F L v zs) (hs : ∀ b x, (b, x) ∈ S → b ∉ F → (b, x) ∈ S') (hO : Own ⟨w0, S'⟩ w L) : By w v zs := by
  rcases h with h | h | ⟨b, C, T, mk, h1, h2, rfl, h3, h4, h5⟩
  · exact h.by hO
  · exact h.later hO.below
  · exact block_by (hO.at (hs _ _ h1 h2)) h3 h4 h5
theorem Byo.mono {w0 : World} {S S' : Blocks} {F F' : List Nat} {L L' : List Rw} {v : Value} {zs : List Int} (h : Byo w0 S F L v zs) (hs : ∀ b x, (b, x) ∈ S → (b, x) ∈ S') (hF : ∀ b x, (b, x) ∈ S → b ∉ F → b ∉ F') (hL : ∀ r ∈ L, r ∈ L') : Byo w0 S' F' L' v zs := by
  rcases h with h | h | ⟨b, C, T, mk, h1, h2, h3⟩
  · exact .inl (h.mono hL)
  · exact .inr (.inl h)
  · exact .inr (.inr ⟨b, C, T, mk, hs _ _ h1, hF _ _ h1 h2, h3⟩)
theorem Byo.form {w0 : World} {S : Blocks} {F : List Nat} {L : List Rw} {v : Value} {zs : List Int} (h : Byo w0 S F L v zs) : ∃ a c, v = .slice a zs.length c := by
  rcases h with ⟨a, c, h, _⟩ | ⟨_, _, a, c, h, _⟩ | ⟨b, C, T, mk, _, _, h, _⟩
  · exact ⟨a, c, h⟩
  · exact ⟨a, c, h⟩
  · exact ⟨_, _, h⟩
def createT (T : Tr) (j : Int) (nd : Nd) (name : ByteArray) (n : Nd) : Tr := putT (({ T with next := T.next + 1 } : Tr).setN T.next n) j nd name T.next n
set_option maxHeartbeats 2000000 in
theorem growFile_any {w0 w : World} {S : Blocks} {L : List Rw} {t : Nat} {T : Tr} (hO : Own ⟨w0, S⟩ w L) (H : Tree S (Pc L) t T) {j : Int} {nd : Nd} {k : Nat} (hj : look T.nodes j = some nd) (hk : nd.k = some k) (name : ByteArray)
    (p q : ByteArray) (v : Value) (zs : List Int) (hv : Byo w0 S (t :: T.foot) L v zs) (hl : zs.length ≤ 140737488355328) (hn1 : 2 ≤ T.next) (hn2 : T.next ≤ 1000000000) :
    Calls Tryz.prog 137 #[.pointer (some ⟨t, 0, none⟩), .agg #[.pointer (some ⟨nd.b, 0, none⟩), .string name], .agg (opL 2 p q v).toArray] w
      (DoL w0 S L t T w (fun T' => ∃ n : Nd, n.er = ⟨false, [], zs, 0⟩ ∧ T' = createT T j nd name n) (.tuple #[])) := by
  have hcl0 := fun (w' : World) (S' : Blocks) (hs : ∀ b x, (b, x) ∈ S → b ∉ t :: T.foot → (b, x) ∈ S') (h : Own ⟨w0, S'⟩ w' L) => clone_any v zs w' (hv.by hs h) hl
  obtain ⟨va, vc, rfl⟩ := hv.form
  obtain ⟨vn, hvn⟩ : ∃ vn, vn = zs.length := ⟨_, rfl⟩
  rw [← hvn] at hcl0 ⊢
  have hO2 := (hO.newB (.cells #[.pointer (some ⟨nd.b, 0, none⟩), .string name] 226)).newB (.cells #[.int .i64 2, .string p, .string q, .slice va vn vc] 84)
  rw [show (w.alloc (.cells #[.pointer (some ⟨nd.b, 0, none⟩), .string name] 226)).heap.size = w.heap.size + 1 by simp] at hO2
  obtain ⟨w2, hw2⟩ : ∃ w2, w2 = (w.alloc (.cells #[.pointer (some ⟨nd.b, 0, none⟩), .string name] 226)).alloc (.cells #[.int .i64 2, .string p, .string q, .slice va vn vc] 84) := ⟨_, rfl⟩
  rw [← hw2] at hO2
  have hsz2 : w2.heap.size = w.heap.size + 2 := by rw [hw2]; simp
  have hlow : ∀ b ∈ t :: T.foot, b < w.heap.size := fun b hb => by
    obtain ⟨x, hx⟩ := kept_in H.at_ b hb
    exact (hO.atLt hx).2
  have H2 := H.mono (D2 := Pc L) (S2 := (w.heap.size + 1, .cells #[.int .i64 2, .string p, .string q, .slice va vn vc] 84) :: (w.heap.size, .cells #[.pointer (some ⟨nd.b, 0, none⟩), .string name] 226) :: S) (fun b x _ hx => List.mem_cons_of_mem _ (List.mem_cons_of_mem _ hx)) (fun _ _ h => h)
  have ht := hlow t (List.mem_cons_self ..)
  -- the next number
  have c1 : w2.cell? ⟨t, 1, none⟩ = some (.int .i64 T.next) := (H2.at_.inWorld hO2).at0.2.1
  have fz1 : w2.frozen? ⟨t, 1, none⟩ = false := free_at (hO2.at H2.at_.cells) 1
  have k0 : w2.cell? ⟨w.heap.size + 1, 0, none⟩ = some (.int .i64 2) := by rw [hO2.cellB (List.mem_cons_self ..)]; rfl
  have hO3 := hO2.storeB H2.at_.cells 1 (.int .i64 (T.next + 1))
  have H3 := H2.setNext (T.next + 1) (by omega)
  have m0 : (w.heap.size + 1, Obj.cells #[.int .i64 2, .string p, .string q, .slice va vn vc] 84) ∈ upd ((w.heap.size + 1, .cells #[.int .i64 2, .string p, .string q, .slice va vn vc] 84) :: (w.heap.size, .cells #[.pointer (some ⟨nd.b, 0, none⟩), .string name] 226) :: S) t (.cells (treeCells { T with next := T.next + 1 }) 124) := upd_other (List.mem_cons_self ..) (by omega) _
  have m1 : (w.heap.size, Obj.cells #[.pointer (some ⟨nd.b, 0, none⟩), .string name] 226) ∈ upd ((w.heap.size + 1, .cells #[.int .i64 2, .string p, .string q, .slice va vn vc] 84) :: (w.heap.size, .cells #[.pointer (some ⟨nd.b, 0, none⟩), .string name] 226) :: S) t (.cells (treeCells { T with next := T.next + 1 }) 124) := upd_other (List.mem_cons_of_mem _ (List.mem_cons_self ..)) (by omega) _
  have hkeep3 : ∀ b x, (b, x) ∈ S → b ∉ t :: T.foot → (b, x) ∈ upd ((w.heap.size + 1, .cells #[.int .i64 2, .string p, .string q, .slice va vn vc] 84) :: (w.heap.size, .cells #[.pointer (some ⟨nd.b, 0, none⟩), .string name] 226) :: S) t (.cells (treeCells { T with next := T.next + 1 }) 124) := fun b x hb hnb => upd_other (List.mem_cons_of_mem _ (List.mem_cons_of_mem _ hb)) (fun e => hnb (e ▸ List.mem_cons_self ..)) _
  obtain ⟨w3, hw3⟩ : ∃ w3, w3 = w2.setCell ⟨t, 1, none⟩ (.int .i64 (T.next + 1)) := ⟨_, rfl⟩
  change Own ⟨w0, upd _ t (.cells (treeCells { T with next := T.next + 1 }) 124)⟩ _ L at hO3
  rw [← hw3] at hO3
  have hsz3 : w3.heap.size = w.heap.size + 2 := by rw [hw3, ← hsz2]; simp
  generalize upd ((w.heap.size + 1, Obj.cells #[.int .i64 2, .string p, .string q, .slice va vn vc] 84) :: (w.heap.size, Obj.cells #[.pointer (some ⟨nd.b, 0, none⟩), .string name] 226) :: S) t (.cells (treeCells { T with next := T.next + 1 }) 124) = S3 at *
  -- the new file
  have hcl := hcl0 _ _ hkeep3 hO3.drew
  have hne : j ≠ T.next := fun e => by have := (H.good.low _ (look_mem hj)).2; simp at this; omega
  have hnk : T.next ∉ T.nodes.map (·.1) := fun hm => by
    obtain ⟨v, hv⟩ := look_some_of_key hm
    rw [fresh_none H.good hn1] at hv; cases hv
  have hbmlt : T.bm < w.heap.size := hlow _ (List.mem_cons_of_mem _ (List.mem_cons_self ..))
  have hlow0 : ∀ b x, (b, x) ∈ S → b < w.heap.size := fun b x hb => (hO.atLt hb).2
  have hgen : ∀ (w7 : World) (a7 : Option Addr) (c7 : Nat), Own w3.drew w7 [rowU (.slice a7 zs.length c7) zs] → Byts zs →
      ∃ W7, (Instr.mapUpdate 122 (.map (some T.bm)) (.int .i64 T.next) (.pointer (some ⟨w7.heap.size, 0, none⟩))).run Tryz.prog (w7.alloc (.cells #[.map none, .slice a7 zs.length c7, .int .i64 0] 120)) = .ok () W7 ∧
        (w7.cell? ⟨t, 2, none⟩ = some (.map (some T.bm)) ∧ w7.cell? ⟨w.heap.size + 1, 3, none⟩ = some (.slice va vn vc)) ∧
        ((w7.alloc (.cells #[.map none, .slice a7 zs.length c7, .int .i64 0] 120)).cell? ⟨t, 2, none⟩ = some (.map (some T.bm)) ∧ (w7.alloc (.cells #[.map none, .slice a7 zs.length c7, .int .i64 0] 120)).cell? ⟨w.heap.size + 1, 3, none⟩ = some (.slice va vn vc)) ∧
        (W7.cell? ⟨t, 2, none⟩ = some (.map (some T.bm)) ∧ W7.cell? ⟨w.heap.size + 1, 3, none⟩ = some (.slice va vn vc)) ∧
        W7.cell? ⟨w.heap.size, 0, none⟩ = some (.pointer (some ⟨nd.b, 0, none⟩)) ∧ W7.cell? ⟨w.heap.size, 1, none⟩ = some (.string name) ∧
        Calls Tryz.prog 195 #[.pointer (some ⟨t, 0, none⟩), .agg #[.pointer (some ⟨nd.b, 0, none⟩), .string name], .int .i64 T.next] W7 (fun e w' => e = .returned (.tuple #[]) ∧ DoL w0 S L t T w (fun T' => ∃ n : Nd, n.er = ⟨false, [], zs, 0⟩ ∧ T' = createT T j nd name n) (.tuple #[]) (.returned (.tuple #[])) w') := by
    intro w7 a7 c7 h7 hz
    have g7 := hO3.drew.join h7
    have hpc : Pc ([rowU (.slice a7 zs.length c7) zs] ++ L) (.slice a7 zs.length c7) zs := Pc.all g7 hz
    have H37 := H3.mono (D2 := Pc ([rowU (.slice a7 zs.length c7) zs] ++ L)) (fun b x _ hx => hx) (fun v zs h => h.mono fun r hr => List.mem_append_right _ hr)
    have g8 := g7.newB (.cells #[.map none, .slice a7 zs.length c7, .int .i64 0] 120)
    obtain ⟨o1, x1, x2⟩ := H37.at_.map
    have x1' := List.mem_cons_of_mem (w7.heap.size, Obj.cells #[.map none, .slice a7 zs.length c7, .int .i64 0] 120) x1
    have hsz7 : w.heap.size + 2 ≤ w7.heap.size := by have := h7.below.size; rw [← hsz3]; exact this
    obtain ⟨o2, hup1, x3⟩ := x2.update kindsI Tryz.underlying122 (g8.at x1') T.next (.pointer (some ⟨w7.heap.size, 0, none⟩))
    have g9 := g8.setB x1' o2
    have hkeep5 : ∀ b x, (b, x) ∈ S3 → b ≠ T.bm → (b, x) ∈ upd ((w7.heap.size, Obj.cells #[.map none, .slice a7 zs.length c7, .int .i64 0] 120) :: S3) T.bm o2 := fun b x hb hne => upd_other (List.mem_cons_of_mem _ hb) hne _
    have H9 := H37.addN (i := T.next) (n := ⟨w7.heap.size, none, [], .slice a7 zs.length c7, zs, 0⟩) (N := w7.heap.size) (fresh_none H.good hn1) (by show (1 : Int) ≤ T.next; omega) (by show T.next < T.next + 1; omega) x3 hkeep5 (upd_same x1' o2) ⟨upd_other (List.mem_cons_self ..) (by show w7.heap.size ≠ T.bm; omega) _, (fun k2 hk2 => by cases hk2), (fun _ => rfl), hpc, ⟨a7, c7, rfl⟩⟩
      (fun b hb => by have := hlow b hb; omega) (fun b hb => by
        have : b ∈ [w7.heap.size] := hb
        simp at this; omega) (by show ([w7.heap.size] : List Nat).Nodup; simp) rfl
    have hj9 : look (({ T with next := T.next + 1 } : Tr).setN T.next ⟨w7.heap.size, none, [], .slice a7 zs.length c7, zs, 0⟩).nodes j = some nd := by unfold Tr.setN; rw [look_put, if_neg hne]; exact hj
    have hi9 : look (({ T with next := T.next + 1 } : Tr).setN T.next ⟨w7.heap.size, none, [], .slice a7 zs.length c7, zs, 0⟩).nodes T.next = some ⟨w7.heap.size, none, [], .slice a7 zs.length c7, zs, 0⟩ := by unfold Tr.setN; rw [look_put, if_pos rfl]
    have hput := put_any g9 H9 hj9 hk name hi9 rfl (Int.le_refl 0) (by show (0 : Int) ≤ 1000000000; decide)
    have e : (({ T with next := T.next + 1 } : Tr).setN T.next ⟨w7.heap.size, none, [], .slice a7 zs.length c7, zs, 0⟩).foot = T.foot ++ [w7.heap.size] := foot_put (T := { T with next := T.next + 1 }) hnk
    have hfr : Frame S (upd ((w7.heap.size, Obj.cells #[.map none, .slice a7 zs.length c7, .int .i64 0] 120) :: S3) T.bm o2) (t :: T.foot) (t :: (({ T with next := T.next + 1 } : Tr).setN T.next ⟨w7.heap.size, none, [], .slice a7 zs.length c7, zs, 0⟩).foot) w.heap.size := by
      refine ⟨fun b x hb hnb => hkeep5 b x (hkeep3 b x hb hnb) (fun e => hnb (e ▸ List.mem_cons_of_mem _ (List.mem_cons_self ..))), fun b hb => ?_⟩
      rw [e, ← List.cons_append] at hb
      rcases List.mem_append.1 hb with hb | hb
      · exact .inl hb
      · simp at hb; right; omega
    have m0' := hkeep5 _ _ m0 (by omega)
    have m1' := hkeep5 _ _ m1 (by omega)
    refine ⟨_, hup1, ⟨(H37.at_.inWorld g7).at0.2.2, by rw [g7.cellB m0]; rfl⟩, ⟨by rw [g8.cellB (List.mem_cons_of_mem _ H37.at_.cells)]; rfl, by rw [g8.cellB (List.mem_cons_of_mem _ m0)]; rfl⟩, ⟨(H9.at_.inWorld g9).at0.2.2, by rw [g9.cellB m0']; rfl⟩, by rw [g9.cellB m1']; rfl, by rw [g9.cellB m1']; rfl, hput.mono ?_⟩
    rintro e w' ⟨S', rfl, k1, k2, k3⟩
    refine ⟨rfl, S', _, _, rfl, k1, fun r hr => List.mem_append_right _ hr, k2, hfr.trans k3 ?_ hlow0, _, rfl, rfl⟩
    have := g9.size
    have h8 := g8.size
    rw [show (setBlock (w7.alloc (.cells #[.map none, .slice a7 zs.length c7, .int .i64 0] 120)) T.bm o2).heap.size = w7.heap.size + 1 by simp [setBlock]]
    omega
  have hz : Byts zs := (hv.by (fun _ _ h _ => h) hO).2.1
  have k3 : w3.cell? ⟨w.heap.size + 1, 0, none⟩ = some (.int .i64 2) := by rw [hO3.cellB m0]; rfl
  have hs3 : w3.drew.cell? ⟨t, 2, none⟩ = some (.map (some T.bm)) ∧ w3.drew.cell? ⟨w.heap.size + 1, 3, none⟩ = some (.slice va vn vc) := ⟨(H3.at_.inWorld hO3.drew).at0.2.2, by rw [hO3.drew.cellB m0]; rfl⟩
  rw [hw3, hw2] at k3
  rw [hw2] at c1 fz1 k0
  have hwr : IntKind.i64.wrap (T.next + 1) = T.next + 1 := IntWalk.i64_in _ (by omega)
  clear hO hO2 hO3 H H2 H3 hlow hlow0 hkeep3 m0 m1 hj hk hne hnk hv hl hcl0 hsz2 hsz3 ht hbmlt hvn
  go_enter Tryz.func137, Tryz.ntmps137
  go_wp2_with fail
  rw [← hw2, ← hw3]
  clear hw2 hw3 k0 k3 c1 fz1
  go_region_held3 (fun w' : World => w'.cell? ⟨t, 2, none⟩ = some (.map (some T.bm)) ∧ w'.cell? ⟨w.heap.size + 1, 3, none⟩ = some (.slice va vn vc)) (first | exact hs3 | exact s2 | exact s1 | exact s3) (first | (go_at_call 145; refine hcl.mono ?_; rintro e w7 ⟨v7, rfl, h7⟩; obtain ⟨a7, c7, rfl, _, _⟩ := Own.sized (h := (show Own w3.drew w7 (⟨5, 1, v7, zs.length, bs zs⟩ :: []) from h7)); obtain ⟨W7, hup7, s1, s2, s3, p0, p1, hput7⟩ := hgen w7 a7 c7 h7 hz))
  trace_state
  all_goals go_wp2_with (go_at_call 195; refine hput7.mono ?_; rintro e w8 ⟨rfl, hD⟩)
  all_goals refine bodyPost_end (v := .tuple #[]) ?_ rfl hD
  all_goals simp [results, Tryz.results137, go_sem]
end Go.Proofs.YtnjabanjgckeoaaGreatDoor
end

/- link. -/
section
namespace Go.Proofs.YtnjabanjgckeoaaGreatDoor
open Go.RowKit
open Go.ChangeMaps (setBlock)
set_option linter.unusedVariables false
set_option linter.unusedSimpArgs false
set_option maxRecDepth 100000

theorem DoL.same {w0 w w1 : World} {S : Blocks} {L : List Rw} {t : Nat} {T : Tr} (r : Value) (hO : Own ⟨w0, S⟩ w1 L) (H : Tree S (Pc L) t T) : DoL w0 S L t T w (fun T2 => T2 = T) r (.returned r) w1 := ⟨S, L, T, rfl, hO, fun _ h => h, H, Frame.refl _ _ _, rfl⟩
set_option maxHeartbeats 1000000 in
theorem link_twice {w0 w : World} {S : Blocks} {L : List Rw} {t : Nat} {T : Tr} (hO : Own ⟨w0, S⟩ w L) (H : Tree S (Pc L) t T) {j : Int} {nd : Nd} {k : Nat} (hj : look T.nodes j = some nd) (hk : nd.k = some k) (name : ByteArray) (i : Int) {x : Int} (hx : look nd.kids name = some x) :
    Calls Tryz.prog 197 #[.pointer (some ⟨t, 0, none⟩), .agg #[.pointer (some ⟨nd.b, 0, none⟩), .string name], .int .i64 i] w (DoL w0 S L t T w (fun T2 => T2 = T) (.int .i64 9)) := by
  have hO1 := (hO.alloc (.cells #[.pointer (some ⟨nd.b, 0, none⟩), .string name] 226)).drew
  obtain ⟨w1, hw1⟩ : ∃ w1, w1 = w.alloc (.cells #[.pointer (some ⟨nd.b, 0, none⟩), .string name] 226) := ⟨_, rfl⟩
  have p0 : w1.drew.cell? ⟨w.heap.size, 0, none⟩ = some (.pointer (some ⟨nd.b, 0, none⟩)) := by rw [hw1]; show (w.alloc _).cell? _ = _; rw [World.cell?_alloc_new]; rfl
  have p1 : w1.drew.cell? ⟨w.heap.size, 1, none⟩ = some (.string name) := by rw [hw1]; show (w.alloc _).cell? _ = _; rw [World.cell?_alloc_new]; rfl
  rw [← hw1] at hO1
  have hNW := (H.at_.inWorld hO1).node _ (look_mem hj)
  obtain ⟨c0, _, _⟩ := hNW.at0
  rw [hk] at c0
  have hl := hNW.look hk name
  rw [hx] at hl
  dsimp only [Option.getD_some, Option.isSome_some] at hl
  have HP := Lib.hid (show DoL w0 S L t T w (fun T2 => T2 = T) (.int .i64 9) (.returned (.int .i64 9)) w1.drew from DoL.same _ hO1 H)
  clear hO hO1 H hj hk hx hNW
  go_enter Tryz.func197, Tryz.ntmps197
  go_wp2_with fail
  rw [← hw1]
  clear hw1
  go_region
  all_goals go_wp2_with fail
  all_goals go_ret
  all_goals exact HP.out
set_option maxHeartbeats 1000000 in
theorem link_ok {w0 w : World} {S : Blocks} {L : List Rw} {t : Nat} {T : Tr} (hO : Own ⟨w0, S⟩ w L) (H : Tree S (Pc L) t T) {j : Int} {nd : Nd} {k : Nat} (hj : look T.nodes j = some nd) (hk : nd.k = some k) (name : ByteArray) (hx : look nd.kids name = none)
    {i : Int} {f : Nd} (hi : look T.nodes i = some f) (hf : f.k = none) (hp0 : 0 ≤ f.places) (hp : f.places ≤ 1000000000) :
    Calls Tryz.prog 197 #[.pointer (some ⟨t, 0, none⟩), .agg #[.pointer (some ⟨nd.b, 0, none⟩), .string name], .int .i64 i] w (DoL w0 S L t T w (fun T2 => T2 = putT T j nd name i f) (.int .i64 0)) := by
  have hO1 := (hO.alloc (.cells #[.pointer (some ⟨nd.b, 0, none⟩), .string name] 226)).drew
  obtain ⟨w1, hw1⟩ : ∃ w1, w1 = w.alloc (.cells #[.pointer (some ⟨nd.b, 0, none⟩), .string name] 226) := ⟨_, rfl⟩
  have p0 : w1.drew.cell? ⟨w.heap.size, 0, none⟩ = some (.pointer (some ⟨nd.b, 0, none⟩)) := by rw [hw1]; show (w.alloc _).cell? _ = _; rw [World.cell?_alloc_new]; rfl
  have p1 : w1.drew.cell? ⟨w.heap.size, 1, none⟩ = some (.string name) := by rw [hw1]; show (w.alloc _).cell? _ = _; rw [World.cell?_alloc_new]; rfl
  have hle : w.heap.size ≤ w1.drew.heap.size := by rw [hw1]; show _ ≤ (w.alloc _).heap.size; simp
  rw [← hw1] at hO1
  have hNW := (H.at_.inWorld hO1).node _ (look_mem hj)
  obtain ⟨c0, _, _⟩ := hNW.at0
  rw [hk] at c0
  have hl := hNW.look hk name
  rw [hx] at hl
  dsimp only [Option.getD_none, Option.isSome_none] at hl
  have hput : Calls Tryz.prog 195 #[.pointer (some ⟨t, 0, none⟩), .agg #[.pointer (some ⟨nd.b, 0, none⟩), .string name], .int .i64 i] w1.drew (fun e w' => e = .returned (.tuple #[]) ∧ DoL w0 S L t T w (fun T2 => T2 = putT T j nd name i f) (.int .i64 0) (.returned (.int .i64 0)) w') :=
    (put_any hO1 H hj hk name hi hf hp0 hp).mono fun e w' h => by
      obtain ⟨S', rfl, h2, h3, h4⟩ := h
      exact ⟨rfl, S', L, _, rfl, h2, fun _ h => h, h3, (Frame.refl S _ _).trans h4 hle (fun b x hb => (hO.atLt hb).2), rfl⟩
  clear hO hO1 H hj hk hx hNW hle hi hf
  go_enter Tryz.func197, Tryz.ntmps197
  go_wp2_with fail
  rw [← hw1]
  clear hw1
  go_region
  all_goals go_wp2_with (go_at_call 195; refine hput.mono ?_; rintro e w8 ⟨rfl, hD⟩)
  all_goals go_ret
  all_goals exact hD
end Go.Proofs.YtnjabanjgckeoaaGreatDoor
end

/- rename. -/
section
namespace Go.Proofs.YtnjabanjgckeoaaGreatDoor
open Go.RowKit
open Go.ChangeMaps (setBlock)
set_option linter.unusedVariables false
set_option linter.unusedSimpArgs false
set_option maxRecDepth 100000

theorem look_del_ne {α β : Type} [DecidableEq α] {m : List (α × β)} {a b : α} (h : b ≠ a) : look (del m a) b = look m b := by
  induction m with
  | nil => rfl
  | cons p r ih =>
    unfold del
    split
    · rename_i e
      have : ¬ p.1 = b := fun e2 => h (e2.symm.trans e)
      rw [look, if_neg this]
    · rw [look, look, ih]
def putTx (T : Tr) (j : Int) (name : ByteArray) (i : Int) : Tr := match look T.nodes j, look T.nodes i with
  | some nd, some f => putT T j nd name i f
  | _, _ => T
def takeTx (T : Tr) (j : Int) (name : ByteArray) : Tr := match look T.nodes j with
  | none => T
  | some nd => match look nd.kids name with
    | none => T
    | some i => match look T.nodes i with
      | none => T
      | some f => takeT T j nd name i f
theorem putTx_of {T : Tr} {j : Int} {nd : Nd} (name : ByteArray) {i : Int} {f : Nd} (hj : look T.nodes j = some nd) (hi : look T.nodes i = some f) : putTx T j name i = putT T j nd name i f := by unfold putTx; rw [hj, hi]
theorem takeTx_of {T : Tr} {j : Int} {nd : Nd} {name : ByteArray} {i : Int} {f : Nd} (hj : look T.nodes j = some nd) (hs : look nd.kids name = some i) (hi : look T.nodes i = some f) : takeTx T j name = takeT T j nd name i f := by
  unfold takeTx; simp only [hj, hs, hi]
theorem look_takeT {T : Tr} {j : Int} {nd : Nd} {name : ByteArray} {i : Int} {f : Nd} (x : Int) : look (takeT T j nd name i f).nodes x = if x = j then some { nd with kids := del nd.kids name } else if x = i then some { f with places := f.places - 1 } else look T.nodes x := by
  unfold takeT Tr.setN
  rw [look_put, look_put]
/-- A directory, a name in it, a file that stands there. -/
structure At (T : Tr) (j : Int) (nd : Nd) (k : Nat) : Prop where
  there : look T.nodes j = some nd
  dir : nd.k = some k
structure Fl (T : Tr) (i : Int) (f : Nd) : Prop where
  there : look T.nodes i = some f
  file : f.k = none
  low : 0 ≤ f.places
  high : f.places ≤ 1000000000
theorem At.ne {T : Tr} {j i : Int} {nd f : Nd} {k : Nat} (h : At T j nd k) (g : Fl T i f) : j ≠ i := fun e => by
  have h1 := h.there
  rw [e, g.there] at h1
  injection h1 with h1
  have := h.dir
  rw [← h1, g.file] at this; cases this
theorem At.behind {T : Tr} {j i : Int} {nd f : Nd} {k : Nat} {name : ByteArray} {j' : Int} {nd' : Nd} {k' : Nat} (h : At T j nd k) (g : Fl T i f) (h' : At T j' nd' k') : ∃ nd2, At (takeT T j nd name i f) j' nd2 k' ∧ nd2.b = nd'.b ∧ (j' ≠ j → nd2 = nd') ∧ (j' = j → nd2.kids = del nd'.kids name) := by
  by_cases e : j' = j
  · have e2 : nd' = nd := by have h1 := h'.there; rw [e, h.there] at h1; injection h1 with h1; exact h1.symm
    refine ⟨{ nd with kids := del nd.kids name }, ⟨by rw [look_takeT, if_pos e], by rw [← e2]; exact h'.dir⟩, by rw [e2], fun h => absurd e h, fun _ => by rw [e2]⟩
  · exact ⟨nd', ⟨by rw [look_takeT, if_neg e, if_neg (h'.ne g)]; exact h'.there, h'.dir⟩, rfl, fun _ => rfl, fun h => absurd h e⟩
theorem Fl.behind {T : Tr} {j i : Int} {nd f : Nd} {k : Nat} {name : ByteArray} {i' : Int} {f' : Nd} (h : At T j nd k) (g : Fl T i f) (g' : Fl T i' f') (hp : 1 ≤ f.places ∨ i' ≠ i) : ∃ f2, Fl (takeT T j nd name i f) i' f2 := by
  by_cases e : i' = i
  · have hp1 : 1 ≤ f.places := hp.resolve_right fun h => h e
    exact ⟨{ f with places := f.places - 1 }, ⟨by rw [look_takeT, if_neg (e ▸ (h.ne g).symm), if_pos e], g.file, by show 0 ≤ f.places - 1; omega, by show f.places - 1 ≤ _; have := g.high; omega⟩⟩
  · exact ⟨f', ⟨by rw [look_takeT, if_neg (h.ne g').symm, if_neg e]; exact g'.there, g'.file, g'.low, g'.high⟩⟩
/-- take, of a tree beside other blocks. -/
theorem take_on {w0 w : World} {S : Blocks} {L : List Rw} {t : Nat} {T : Tr} (hO : Own ⟨w0, S⟩ w L) (H : Tree S (Pc L) t T) {j : Int} {nd : Nd} {k : Nat} (h : At T j nd k) {name : ByteArray} {i : Int} {f : Nd} (hs : look nd.kids name = some i) (g : Fl T i f) :
    Calls Tryz.prog 196 #[.pointer (some ⟨t, 0, none⟩), .agg #[.pointer (some ⟨nd.b, 0, none⟩), .string name]] w (fun e w' => e = .returned (.tuple #[]) ∧ ∃ S', Own ⟨w0, S'⟩ w' L ∧ Tree S' (Pc L) t (takeTx T j name) ∧ Frame S S' (t :: T.foot) (t :: (takeTx T j name).foot) w.heap.size) :=
  (take_any hO H h.there h.dir name hs g.there g.file g.low g.high).mono fun e w' hd => by
    obtain ⟨S', e1, h1, h2, h3⟩ := hd
    rw [takeTx_of h.there hs g.there]
    exact ⟨e1, S', h1, h2, h3⟩
theorem put_on {w0 w : World} {S : Blocks} {L : List Rw} {t : Nat} {T : Tr} (hO : Own ⟨w0, S⟩ w L) (H : Tree S (Pc L) t T) {j : Int} {nd : Nd} {k : Nat} (h : At T j nd k) (name : ByteArray) {i : Int} {f : Nd} (g : Fl T i f) :
    Calls Tryz.prog 195 #[.pointer (some ⟨t, 0, none⟩), .agg #[.pointer (some ⟨nd.b, 0, none⟩), .string name], .int .i64 i] w (fun e w' => e = .returned (.tuple #[]) ∧ ∃ S', Own ⟨w0, S'⟩ w' L ∧ Tree S' (Pc L) t (putTx T j name i) ∧ Frame S S' (t :: T.foot) (t :: (putTx T j name i).foot) w.heap.size) :=
  (put_any hO H h.there h.dir name g.there g.file g.low g.high).mono fun e w' hd => by
    obtain ⟨S', e1, h1, h2, h3⟩ := hd
    rw [putTx_of name h.there g.there]
    exact ⟨e1, S', h1, h2, h3⟩
end Go.Proofs.YtnjabanjgckeoaaGreatDoor
end

/- rename: the walks. -/
section
namespace Go.Proofs.YtnjabanjgckeoaaGreatDoor
open Go.RowKit
open Go.ChangeMaps (setBlock)
set_option linter.unusedVariables false
set_option linter.unusedSimpArgs false
set_option maxRecDepth 100000

theorem Frame.more {S S2 S3 : Blocks} {F F3 : List Nat} {n m : Nat} (hs : ∀ b x, (b, x) ∈ S → (b, x) ∈ S2) (k : Frame S2 S3 F F3 m) (hnm : n ≤ m) (hlt : ∀ b x, (b, x) ∈ S → b < n) : Frame S S3 F F3 n :=
  (⟨fun b x hb _ => hs b x hb, fun b hb => .inl hb⟩ : Frame S S2 F F n).trans k hnm hlt
theorem two_boxes {w0 w : World} {S : Blocks} {L : List Rw} {t : Nat} {T : Tr} (hO : Own ⟨w0, S⟩ w L) (H : Tree S (Pc L) t T) (P Q : Obj) : ∃ w1 S2, w1 = (w.alloc P).alloc Q ∧ w1.heap.size = w.heap.size + 2 ∧ Own ⟨w0, S2⟩ w1.drew L ∧ Tree S2 (Pc L) t T ∧ (w.heap.size, P) ∈ S2 ∧ (w.heap.size + 1, Q) ∈ S2 ∧ (∀ b x, (b, x) ∈ S → (b, x) ∈ S2) ∧ (∀ b x, (b, x) ∈ S → b < w.heap.size) ∧ (∀ b ∈ t :: T.foot, b < w.heap.size) := by
  have h2 := (hO.newB P).newB Q
  rw [show (w.alloc P).heap.size = w.heap.size + 1 by simp] at h2
  refine ⟨_, (w.heap.size + 1, Q) :: (w.heap.size, P) :: S, rfl, by simp, h2.drew, H.mono (fun b x _ hx => List.mem_cons_of_mem _ (List.mem_cons_of_mem _ hx)) (fun _ _ h => h), List.mem_cons_of_mem _ (List.mem_cons_self ..), List.mem_cons_self .., fun b x hb => List.mem_cons_of_mem _ (List.mem_cons_of_mem _ hb), fun b x hb => (hO.atLt hb).2, fun b hb => ?_⟩
  obtain ⟨x, hx⟩ := kept_in H.at_ b hb
  exact (hO.atLt hx).2
/-- take at one place, then put at another one, with both places in boxes. -/
theorem take_put {w0 w w1 : World} {S S2 : Blocks} {L : List Rw} {t : Nat} {T T0 : Tr} {m : Nat} (hO : Own ⟨w0, S2⟩ w1 L) (H : Tree S2 (Pc L) t T) {ja jb i : Int} {nda ndb f : Nd} {ka kb : Nat} (ha : At T ja nda ka) (hb : At T jb ndb kb) {na nb : ByteArray} (hs : look nda.kids na = some i) (g : Fl T i f) (hp : 1 ≤ f.places)
    (hP : (m, Obj.cells #[.pointer (some ⟨nda.b, 0, none⟩), .string na] 226) ∈ S2) (hQ : (m + 1, Obj.cells #[.pointer (some ⟨ndb.b, 0, none⟩), .string nb] 226) ∈ S2) (hlow : ∀ b ∈ t :: T.foot, b < m) (hmw : m + 2 ≤ w1.heap.size)
    (hfr : Frame S S2 (t :: T0.foot) (t :: T.foot) w.heap.size) (hwm : w.heap.size ≤ m) (hlt : ∀ b x, (b, x) ∈ S → b < w.heap.size) :
    Calls Tryz.prog 196 #[.pointer (some ⟨t, 0, none⟩), .agg #[.pointer (some ⟨nda.b, 0, none⟩), .string na]] w1 (fun e w2 => e = .returned (.tuple #[]) ∧ w2.cell? ⟨m, 0, none⟩ = some (.pointer (some ⟨nda.b, 0, none⟩)) ∧ w2.cell? ⟨m, 1, none⟩ = some (.string na) ∧ w2.cell? ⟨m + 1, 0, none⟩ = some (.pointer (some ⟨ndb.b, 0, none⟩)) ∧ w2.cell? ⟨m + 1, 1, none⟩ = some (.string nb) ∧
      Calls Tryz.prog 195 #[.pointer (some ⟨t, 0, none⟩), .agg #[.pointer (some ⟨ndb.b, 0, none⟩), .string nb], .int .i64 i] w2 (fun e w3 => e = .returned (.tuple #[]) ∧ ∃ S', Own ⟨w0, S'⟩ w3 L ∧ Tree S' (Pc L) t (putTx (takeTx T ja na) jb nb i) ∧ Frame S S' (t :: T0.foot) (t :: (putTx (takeTx T ja na) jb nb i).foot) w.heap.size)) :=
  (take_on hO H ha hs g).mono fun e w2 hd => by
    obtain ⟨e1, S3, h1, h2, h3⟩ := hd
    have m1 := h3.kept _ _ hP (fun hm => by have := hlow _ hm; omega)
    have m2 := h3.kept _ _ hQ (fun hm => by have := hlow _ hm; omega)
    obtain ⟨nd2, x1, x2, _, _⟩ := ha.behind (name := na) g hb
    obtain ⟨f2, y1⟩ := Fl.behind (name := na) ha g g (.inl hp)
    rw [← takeTx_of ha.there hs g.there] at x1 y1
    have hp2 := put_on h1 h2 x1 nb y1
    rw [x2] at hp2
    have hsz : w.heap.size ≤ w2.heap.size := by
      have := (h1.atLt m2).2
      omega
    refine ⟨e1, by rw [h1.cellB m1]; rfl, by rw [h1.cellB m1]; rfl, by rw [h1.cellB m2]; rfl, by rw [h1.cellB m2]; rfl, hp2.mono fun e w3 hd => ?_⟩
    obtain ⟨e2, S4, z1, z2, z3⟩ := hd
    exact ⟨e2, S4, z1, z2, (hfr.trans h3 (by omega) hlt).trans z3 hsz hlt⟩
def argP (nd : Nd) (name : ByteArray) : Value := .agg #[.pointer (some ⟨nd.b, 0, none⟩), .string name]
abbrev boxP (nd : Nd) (name : ByteArray) : Obj := .cells #[.pointer (some ⟨nd.b, 0, none⟩), .string name] 226
def RenamePost (w0 : World) (S : Blocks) (L : List Rw) (t : Nat) (T T' : Tr) (w : World) (c : Int) : Ending → World → Prop := DoL w0 S L t T w (fun T2 => T2 = T') (.int .i64 c)
set_option maxHeartbeats 2000000 in
/-- To where nothing stands. -/
theorem rename_free {w0 w : World} {S : Blocks} {L : List Rw} {t : Nat} {T : Tr} (hO : Own ⟨w0, S⟩ w L) (H : Tree S (Pc L) t T) {ja jb i : Int} {nda ndb f : Nd} {ka kb : Nat} (ha : At T ja nda ka) (hb : At T jb ndb kb) {na nb : ByteArray} (hs : look nda.kids na = some i) (g : Fl T i f) (hp : 1 ≤ f.places) (hx : look ndb.kids nb = none) :
    Calls Tryz.prog 198 #[.pointer (some ⟨t, 0, none⟩), .agg #[.pointer (some ⟨nda.b, 0, none⟩), .string na], .agg #[.pointer (some ⟨ndb.b, 0, none⟩), .string nb], .int .i64 i] w (DoL w0 S L t T w (fun T2 => T2 = putTx (takeTx T ja na) jb nb i) (.int .i64 0)) := by
  obtain ⟨w1, S2, hw1, hsz, hO1, H1, m1, m2, hsub, hlt, hlow⟩ := two_boxes hO H (boxP nda na) (boxP ndb nb)
  have p0 : w1.drew.cell? ⟨w.heap.size, 0, none⟩ = some (.pointer (some ⟨nda.b, 0, none⟩)) := by rw [hO1.cellB m1]; rfl
  have p1 : w1.drew.cell? ⟨w.heap.size, 1, none⟩ = some (.string na) := by rw [hO1.cellB m1]; rfl
  have q0 : w1.drew.cell? ⟨w.heap.size + 1, 0, none⟩ = some (.pointer (some ⟨ndb.b, 0, none⟩)) := by rw [hO1.cellB m2]; rfl
  have q1 : w1.drew.cell? ⟨w.heap.size + 1, 1, none⟩ = some (.string nb) := by rw [hO1.cellB m2]; rfl
  have hNW := (H1.at_.inWorld hO1).node _ (look_mem hb.there)
  obtain ⟨c0, _, _⟩ := hNW.at0
  rw [hb.dir] at c0
  have hl := hNW.look hb.dir nb
  rw [hx] at hl
  dsimp only [Option.getD_none, Option.isSome_none] at hl
  have hT := take_put (w := w) (T0 := T) (m := w.heap.size) hO1 H1 ha hb hs g hp m1 m2 hlow (by show _ ≤ w1.heap.size; omega) ⟨fun b x hb _ => hsub b x hb, fun b hb => .inl hb⟩ (Nat.le_refl _) hlt
  clear hO H hO1 H1 ha hb hx hNW hs g hp m1 m2 hsub hlt hlow hsz
  go_enter Tryz.func198, Tryz.ntmps198
  go_wp2_with fail
  rw [← hw1]
  clear hw1
  go_region
  go_wp2_with fail
  refine hT.mono ?_
  rintro e w2 ⟨rfl, r0, r1, s0, s1, hput⟩
  clear p0 p1 q0 q1 c0 hl hT
  go_wp2_with fail
  refine hput.mono ?_
  rintro e w3 ⟨rfl, S', k1, k2, k3⟩
  have HP := Lib.hid (show DoL w0 S L t T w (fun T2 => T2 = putTx (takeTx T ja na) jb nb i) (.int .i64 0) (.returned (.int .i64 0)) w3 from ⟨S', L, _, rfl, k1, fun _ h => h, k2, k3, rfl⟩)
  clear k1 k2 k3 hput
  go_wp2_with fail
  go_ret
  exact HP.out
end Go.Proofs.YtnjabanjgckeoaaGreatDoor
end

/- rename over what stands. -/
section
namespace Go.Proofs.YtnjabanjgckeoaaGreatDoor
open Go.RowKit
open Go.ChangeMaps (setBlock)
set_option linter.unusedVariables false
set_option linter.unusedSimpArgs false
set_option maxRecDepth 100000

theorem foot_takeTx {T : Tr} {j : Int} {nd : Nd} {k : Nat} {name : ByteArray} {i : Int} {f : Nd} (h : At T j nd k) (hs : look nd.kids name = some i) (g : Fl T i f) : (takeTx T j name).foot = T.foot := by
  rw [takeTx_of h.there hs g.there]
  have hj2 : look (T.setN i { f with places := f.places - 1 }).nodes j = some nd := by unfold Tr.setN; rw [look_put, if_neg (h.ne g)]; exact h.there
  exact (setN_foot (n' := { nd with kids := del nd.kids name }) hj2 rfl rfl).trans (setN_foot (n' := { f with places := f.places - 1 }) g.there rfl rfl)
set_option maxHeartbeats 2000000 in
/-- To where something stands: a directory, or the file itself. -/
theorem rename_still {w0 w : World} {S : Blocks} {L : List Rw} {t : Nat} {T : Tr} (hO : Own ⟨w0, S⟩ w L) (H : Tree S (Pc L) t T) {jb i old : Int} {nda ndb fo : Nd} {kb : Nat} (hb : At T jb ndb kb) {na nb : ByteArray} (hx : look ndb.kids nb = some old) (ho : look T.nodes old = some fo)
    {c : Int} (hc : (fo.k.isSome = true ∧ c = 10) ∨ (fo.k.isSome = false ∧ old = i ∧ c = 0)) :
    Calls Tryz.prog 198 #[.pointer (some ⟨t, 0, none⟩), .agg #[.pointer (some ⟨nda.b, 0, none⟩), .string na], .agg #[.pointer (some ⟨ndb.b, 0, none⟩), .string nb], .int .i64 i] w (DoL w0 S L t T w (fun T2 => T2 = T) (.int .i64 c)) := by
  obtain ⟨w1, S2, hw1, hsz, hO1, H1, m1, m2, hsub, hlt, hlow⟩ := two_boxes hO H (boxP nda na) (boxP ndb nb)
  have q0 : w1.drew.cell? ⟨w.heap.size + 1, 0, none⟩ = some (.pointer (some ⟨ndb.b, 0, none⟩)) := by rw [hO1.cellB m2]; rfl
  have q1 : w1.drew.cell? ⟨w.heap.size + 1, 1, none⟩ = some (.string nb) := by rw [hO1.cellB m2]; rfl
  have hNW := (H1.at_.inWorld hO1).node _ (look_mem hb.there)
  obtain ⟨c0, _, _⟩ := hNW.at0
  rw [hb.dir] at c0
  have hl := hNW.look hb.dir nb
  rw [hx] at hl
  dsimp only [Option.getD_some, Option.isSome_some] at hl
  have c2 := (H1.at_.inWorld hO1).at0.2.2
  have hl2 := (H1.at_.inWorld hO1).look old
  rw [ho] at hl2
  dsimp only [ptrOf] at hl2
  have hdir := dir_any ((H1.at_.inWorld hO1).node _ (look_mem ho))
  have HP := Lib.hid (show ∀ c : Int, DoL w0 S L t T w (fun T2 => T2 = T) (.int .i64 c) (.returned (.int .i64 c)) w1.drew from fun c => ⟨S2, L, T, rfl, hO1, fun _ h => h, H1, ⟨fun b x hb _ => hsub b x hb, fun b hb => .inl hb⟩, rfl⟩)
  rcases hc with ⟨h1, rfl⟩ | ⟨h1, rfl, rfl⟩
  · rw [h1] at hdir
    clear hO H hO1 H1 hb hx hNW m1 m2 hsub hlt hlow hsz ho h1
    go_enter Tryz.func198, Tryz.ntmps198
    go_wp2_with fail
    rw [← hw1]
    clear hw1
    go_region
    go_wp2_with (go_at_call 134; refine hdir.mono ?_; rintro e w' ⟨rfl, rfl⟩)
    go_ret
    exact HP.out _
  · rw [h1] at hdir
    clear hO H hO1 H1 hb hx hNW m1 m2 hsub hlt hlow hsz ho h1
    go_enter Tryz.func198, Tryz.ntmps198
    go_wp2_with fail
    rw [← hw1]
    clear hw1
    go_region
    go_wp2_with (go_at_call 134; refine hdir.mono ?_; rintro e w' ⟨rfl, rfl⟩)
    go_ret
    exact HP.out _
set_option maxHeartbeats 2000000 in
/-- Over another file. -/
theorem rename_over {w0 w : World} {S : Blocks} {L : List Rw} {t : Nat} {T : Tr} (hO : Own ⟨w0, S⟩ w L) (H : Tree S (Pc L) t T) {ja jb i old : Int} {nda ndb f fo : Nd} {ka kb : Nat} (ha : At T ja nda ka) (hb : At T jb ndb kb) {na nb : ByteArray} (hs : look nda.kids na = some i) (g : Fl T i f) (hp : 1 ≤ f.places)
    (hx : look ndb.kids nb = some old) (go : Fl T old fo) (hne : old ≠ i) :
    Calls Tryz.prog 198 #[.pointer (some ⟨t, 0, none⟩), .agg #[.pointer (some ⟨nda.b, 0, none⟩), .string na], .agg #[.pointer (some ⟨ndb.b, 0, none⟩), .string nb], .int .i64 i] w (DoL w0 S L t T w (fun T2 => T2 = putTx (takeTx (takeTx T jb nb) ja na) jb nb i) (.int .i64 0)) := by
  obtain ⟨w1, S2, hw1, hsz, hO1, H1, m1, m2, hsub, hlt, hlow⟩ := two_boxes hO H (boxP nda na) (boxP ndb nb)
  have p0 : w1.drew.cell? ⟨w.heap.size, 0, none⟩ = some (.pointer (some ⟨nda.b, 0, none⟩)) := by rw [hO1.cellB m1]; rfl
  have p1 : w1.drew.cell? ⟨w.heap.size, 1, none⟩ = some (.string na) := by rw [hO1.cellB m1]; rfl
  have q0 : w1.drew.cell? ⟨w.heap.size + 1, 0, none⟩ = some (.pointer (some ⟨ndb.b, 0, none⟩)) := by rw [hO1.cellB m2]; rfl
  have q1 : w1.drew.cell? ⟨w.heap.size + 1, 1, none⟩ = some (.string nb) := by rw [hO1.cellB m2]; rfl
  have hNW := (H1.at_.inWorld hO1).node _ (look_mem hb.there)
  obtain ⟨c0, _, _⟩ := hNW.at0
  rw [hb.dir] at c0
  have hl := hNW.look hb.dir nb
  rw [hx] at hl
  dsimp only [Option.getD_some, Option.isSome_some] at hl
  have c2 := (H1.at_.inWorld hO1).at0.2.2
  have hl2 := (H1.at_.inWorld hO1).look old
  rw [go.there] at hl2
  dsimp only [ptrOf] at hl2
  have hdir := dir_any ((H1.at_.inWorld hO1).node _ (look_mem go.there))
  rw [show fo.k.isSome = false by rw [go.file]; rfl] at hdir
  have hq : (old == i) = false := by simpa using hne
  have hT0 : Calls Tryz.prog 196 #[.pointer (some ⟨t, 0, none⟩), .agg #[.pointer (some ⟨ndb.b, 0, none⟩), .string nb]] w1.drew (fun e w2 => e = .returned (.tuple #[]) ∧ w2.cell? ⟨w.heap.size, 0, none⟩ = some (.pointer (some ⟨nda.b, 0, none⟩)) ∧ w2.cell? ⟨w.heap.size, 1, none⟩ = some (.string na) ∧
      Calls Tryz.prog 196 #[.pointer (some ⟨t, 0, none⟩), .agg #[.pointer (some ⟨nda.b, 0, none⟩), .string na]] w2 (fun e w3 => e = .returned (.tuple #[]) ∧ w3.cell? ⟨w.heap.size + 1, 0, none⟩ = some (.pointer (some ⟨ndb.b, 0, none⟩)) ∧ w3.cell? ⟨w.heap.size + 1, 1, none⟩ = some (.string nb) ∧
        Calls Tryz.prog 195 #[.pointer (some ⟨t, 0, none⟩), .agg #[.pointer (some ⟨ndb.b, 0, none⟩), .string nb], .int .i64 i] w3 (fun e w4 => e = .returned (.tuple #[]) ∧ DoL w0 S L t T w (fun T2 => T2 = putTx (takeTx (takeTx T jb nb) ja na) jb nb i) (.int .i64 0) (.returned (.int .i64 0)) w4))) :=
    (take_on hO1 H1 hb hx go).mono fun e w2 hd => by
      obtain ⟨e1, S3, h1, h2, h3⟩ := hd
      have n1 := h3.kept _ _ m1 (fun hm => by have := hlow _ hm; omega)
      have n2 := h3.kept _ _ m2 (fun hm => by have := hlow _ hm; omega)
      obtain ⟨nda2, x1, x2, x3, x4⟩ := hb.behind (name := nb) go ha
      obtain ⟨ndb2, y1, y2, _, _⟩ := hb.behind (name := nb) go hb
      have g1 : Fl (takeT T jb ndb nb old fo) i f := ⟨by rw [look_takeT, if_neg (hb.ne g).symm, if_neg (fun e => hne e.symm)]; exact g.there, g.file, g.low, g.high⟩
      have hs2 : look nda2.kids na = some i := by
        by_cases e : ja = jb
        · have e2 : nda = ndb := by have h1 := ha.there; rw [e, hb.there] at h1; injection h1 with h1; exact h1.symm
          rw [x4 e, look_del_ne, hs]
          intro e3
          rw [e2, e3, hx] at hs
          injection hs with hs
          exact hne hs
        · rw [x3 e]; exact hs
      rw [← takeTx_of hb.there hx go.there] at x1 y1 g1
      have n1' : (w.heap.size, boxP nda2 na) ∈ S3 := by unfold boxP; rw [x2]; exact n1
      have n2' : (w.heap.size + 1, boxP ndb2 nb) ∈ S3 := by unfold boxP; rw [y2]; exact n2
      have hft := foot_takeTx hb hx go
      have hsz2 : w.heap.size + 2 ≤ w2.heap.size := by have := (h1.atLt n2).2; omega
      have hT := take_put (w := w) (T0 := T) (m := w.heap.size) h1 h2 x1 y1 hs2 g1 hp n1' n2' (by rw [hft]; exact hlow) hsz2 (Frame.more hsub h3 (by show _ ≤ w1.heap.size; omega) hlt) (Nat.le_refl _) hlt
      rw [x2, y2] at hT
      refine ⟨e1, by rw [h1.cellB n1]; rfl, by rw [h1.cellB n1]; rfl, hT.mono fun e w3 hd => ?_⟩
      obtain ⟨e2, _, _, r0, r1, hput⟩ := hd
      refine ⟨e2, r0, r1, hput.mono fun e w4 hd => ?_⟩
      obtain ⟨e3, S', k1, k2, k3⟩ := hd
      exact ⟨e3, S', L, _, rfl, k1, fun _ h => h, k2, k3, rfl⟩
  clear hO H hO1 H1 ha hb hx hNW hs g hp m1 m2 hsub hlt hlow hsz go hne
  go_enter Tryz.func198, Tryz.ntmps198
  go_wp2_with fail
  rw [← hw1]
  clear hw1
  go_region
  go_wp2_with (go_at_call 134; refine hdir.mono ?_; rintro e w' ⟨rfl, rfl⟩)
  refine hT0.mono ?_
  rintro e w2 ⟨rfl, r0, r1, hT⟩
  clear p0 p1 q0 q1 c0 hl hT0
  go_wp2_with fail
  refine hT.mono ?_
  rintro e w3 ⟨rfl, s0, s1, hput⟩
  clear r0 r1 hT
  go_wp2_with fail
  refine hput.mono ?_
  rintro e w4 ⟨rfl, hD⟩
  have HP := Lib.hid hD
  clear hD hput
  go_wp2_with fail
  go_ret
  exact HP.out
end Go.Proofs.YtnjabanjgckeoaaGreatDoor
end
