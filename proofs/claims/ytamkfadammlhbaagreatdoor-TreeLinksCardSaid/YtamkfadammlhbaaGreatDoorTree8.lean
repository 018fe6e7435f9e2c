/- Clone. -/
import Derived.Test.YtamkfadammlhbaaGreatDoorTree7
import Derived.Shelf.SlMaps.Clone
import Derived.Deep.RegionHeld3
namespace Go.Proofs.YtamkfadammlhbaaGreatDoor
open Go.RowKit
open Go.ChangeMaps (setBlock)
set_option linter.unusedVariables false
set_option linter.unusedSimpArgs false
set_option maxRecDepth 100000

theorem mapclone_any (b : Nat) (es : Array MapEntry) (clock : Nat) (w : World) (hb : w.heap[b]? = some (.map es clock)) :
    Calls Tryz.prog 56 #[.map (some b)] w fun e w' => e = .returned (.map (some w.heap.size)) ∧ w' = w.alloc (.map es clock) := by
  have hq := fun w => run_eql_map_nil_sl (P := Tryz.prog) w 84 _ _ (some b) Tryz.underlying84
  go_enter Tryz.func56, Tryz.ntmps56
  go_wp2_with fail
  rw [run_callFunc_extern Tryz.func80 (by kernel_rfl) (by kernel_rfl) (by kernel_rfl) (e := Extern.MapsClone.clone) (by kernel_rfl), run_maps_clone_sl w 84 hb]
  simp only [Result.andThen]
  rw [Oper.upon_value]
  go_wp2_with fail
  rw [run_typeAssert_map_sl _ 84 20 _ _ _ Tryz.underlying84]
  simp only [Result.andThen]
  rw [Oper.upon_value]
  go_wp2_with fail
  go_ret
  exact ⟨rfl, rfl⟩
theorem mapclone_nil (w : World) :
    Calls Tryz.prog 56 #[.map none] w fun e w' => e = .returned (.map none) ∧ w = w' := by
  have hq := fun w => run_eql_map_nil_sl (P := Tryz.prog) w 84 _ _ none Tryz.underlying84
  go_enter Tryz.func56, Tryz.ntmps56
  go_wp2_with fail
  go_ret
  exact ⟨rfl, rfl⟩
/-- A node without its blocks. -/
structure ENd where
  dir : Bool
  kids : List (ByteArray × Int)
  data : List Int
  places : Int
def Nd.er (n : Nd) : ENd := ⟨n.k.isSome, n.kids, n.data, n.places⟩
def erL (l : List (Int × Nd)) : List (Int × ENd) := l.map fun p => (p.1, p.2.er)
/-- Going through a tree's nodes by the iterator at r, where what lay in w's blocks is as it was. -/
def WalksR (w : World) (r : Nat) (T : Tr) (oi o : Obj) (done left : List (Int × Nd)) (wr : World) : Prop :=
  wr.heap[r]? = some oi ∧ w.heap[T.bm]? = some o ∧ IterO KI oi T.bm o (nodesV T) (ndV left) ∧ (done ++ left).Perm T.nodes ∧ Below w.heap.size w wr ∧ w.heap.size ≤ r
theorem WalksR.next {w wr : World} {r : Nat} {T : Tr} {oi o : Obj} {done left : List (Int × Nd)} (h : WalksR w r T oi o done left wr) :
    (left = [] ∧ ∀ ty, (Instr.next (.pointer (some ⟨r, 0, none⟩)) false ty).run Tryz.prog wr = .ok (.tuple #[.bool false]) wr) ∨
    ∃ (l1 l2 : List (Int × Nd)) (p : Int × Nd) (oi' : Obj) (w1 : World), left = l1 ++ p :: l2 ∧ (w1 = wr ∨ w1 = wr.drew) ∧ (∀ ty, (Instr.next (.pointer (some ⟨r, 0, none⟩)) false ty).run Tryz.prog wr = .ok (.tuple #[.bool true, .int .i64 p.1, .pointer (some ⟨p.2.b, 0, none⟩)]) (setBlock w1 r oi')) ∧
      WalksR w r T oi' o (done ++ [p]) (l1 ++ l2) (setBlock w1 r oi') ∧ p ∈ T.nodes ∧
      (∀ u : World, u.heap[r]? = some oi' → u.heap[T.bm]? = some o → (Instr.entry (.pointer (some ⟨r, 0, none⟩))).run Tryz.prog u = .ok (.tuple #[.int .i64 p.1, .pointer (some ⟨p.2.b, 0, none⟩)]) u) := by
  obtain ⟨h1, h2, h3, h4, h5, h6⟩ := h
  have hlt := lt_of_heap h2
  have h2' : wr.heap[T.bm]? = some o := (h5.block _ hlt).trans h2
  rcases h3.next (P := Tryz.prog) 0 h1 h2' with ⟨g1, g2⟩ | ⟨x, y, z, w1, oi', g1, g2, g3, g4, g5⟩
  · left
    have : left = [] := List.map_eq_nil_iff.1 g1
    exact ⟨this, fun ty => g2⟩
  · right
    obtain ⟨l1, p, l2, e1, e2, e3, e4⟩ := ndV_split g1
    have hb1 : Below w.heap.size w w1 := by rcases g2 with rfl | rfl; exact h5; exact h5.drew
    have hlt1 : r < w1.heap.size := by rcases g2 with rfl | rfl <;> exact lt_of_heap h1
    obtain ⟨s1, s2, s3⟩ := setBlock_heap w1 r oi' hlt1
    refine ⟨l1, l2, p, oi', w1, e1, g2, fun ty => by rw [show (Instr.next (.pointer (some ⟨r, 0, none⟩)) false ty) = (Instr.next (.pointer (some ⟨r, 0, none⟩)) false 0) from rfl, g3, e3], ⟨s1, h2, by rw [show ndV (l1 ++ l2) = x ++ z by rw [← e2, ← e4]; simp [ndV]]; exact g4, ?_, below_setBlock hb1 h6 _, h6⟩, ?_, fun u hu hu2 => by rw [g5 u hu hu2, e3]⟩
    · refine List.Perm.trans ?_ h4
      rw [e1]
      simp only [List.append_assoc, List.singleton_append]
      exact (List.perm_middle.symm).append_left done
    · exact h4.subset (by rw [e1]; simp)
theorem WalksR.tree {w wr : World} {r : Nat} {D : Value → List Int → Prop} {t : Nat} {T : Tr} {oi o : Obj} {done left : List (Int × Nd)} (h : WalksR w r T oi o done left wr) (H : TreeIn (inW w) D t T) : TreeIn (inW wr) D t T := H.later h.2.2.2.2.1
theorem WalksR.entry {w wr : World} {r : Nat} {T : Tr} {oi o : Obj} {done left : List (Int × Nd)} (h : WalksR w r T oi o done left wr) : wr.heap[r]? = some oi ∧ wr.heap[T.bm]? = some o := ⟨h.1, (h.2.2.2.2.1.block _ (lt_of_heap h.2.1)).trans h.2.1⟩
theorem WalksR.left_eq {w wr : World} {r : Nat} {T : Tr} {oi o : Obj} {done left : List (Int × Nd)} (h : WalksR w r T oi o done left wr) : leftN wr T.bm r = left.length := by
  obtain ⟨e1, e2⟩ := h.entry
  obtain ⟨es, clock, since, seen, c0, rfl, rfl, _, _, _, _, _, _, h7⟩ := h.2.2.1
  have := congrArg List.length h7
  simp only [leftN, e1, e2]
  simpa [ndV] using this
theorem WalksR.key {w wr : World} {r : Nat} {T : Tr} {oi o : Obj} {done l : List (Int × Nd)} {p : Int × Nd} (h : WalksR w r T oi o (done ++ [p]) l wr) (G : (T.nodes.map (·.1)).Nodup) : p.1 ∉ done.map (·.1) := by
  have h1 := (h.2.2.2.1.map (·.1)).nodup_iff.2 G
  rw [List.append_assoc, List.map_append] at h1
  intro hm
  exact (List.nodup_append.1 h1).2.2 _ hm p.1 (by simp) rfl
/-- A tree that is being made: its blocks are apart, and new. -/
structure Part (S : Blocks) (D : Value → List Int → Prop) (c : Nat) (T : Tr) (B : Nat) : Prop where
  at_ : TreeIn (inS S) D c T
  apart : (c :: T.foot).Nodup
  high : ∀ b ∈ c :: T.foot, B ≤ b
theorem put_new {α β : Type} [DecidableEq α] {m : List (α × β)} {a : α} (h : a ∉ m.map (·.1)) (v : β) : put m a v = m ++ [(a, v)] := by
  induction m with
  | nil => rfl
  | cons p r ih =>
    simp only [List.map_cons, List.mem_cons, not_or] at h
    unfold put
    rw [if_neg (fun e => h.1 e.symm), ih h.2]; rfl
theorem foot_put {T : Tr} {i : Int} {n : Nd} (h : i ∉ T.nodes.map (·.1)) : (T.setN i n).foot = T.foot ++ n.foot := by
  unfold Tr.foot Tr.setN
  rw [put_new h, List.flatMap_append]; simp
theorem nodesV_put {T : Tr} {i : Int} {n : Nd} (h : i ∉ T.nodes.map (·.1)) : nodesV (T.setN i n) = put (nodesV T) i (.pointer (some ⟨n.b, 0, none⟩)) := by
  have h2 : i ∉ (nodesV T).map (·.1) := by unfold nodesV; rw [List.map_map]; exact h
  rw [put_new h2]
  unfold nodesV Tr.setN
  rw [put_new h]; simp
/-- One more node of new blocks: what its map's update makes. -/
theorem Part.add {S S2 : Blocks} {D : Value → List Int → Prop} {c B N : Nat} {T : Tr} (H : Part S D c T B) {i : Int} (hi : i ∉ T.nodes.map (·.1)) {n : Nd} {o : Obj} (ho : MapO KI o (put (nodesV T) i (.pointer (some ⟨n.b, 0, none⟩))))
    (hS : ∀ b x, (b, x) ∈ S → b ≠ T.bm → (b, x) ∈ S2) (hbm : (T.bm, o) ∈ S2) (hN : NodeIn (inS S2) D n) (hlow : ∀ b ∈ c :: T.foot, b < N) (hnew : ∀ b ∈ n.foot, N ≤ b ∧ B ≤ b) (hnd : n.foot.Nodup) : Part S2 D c (T.setN i n) B := by
  have hap := H.apart
  have hcb : c ≠ T.bm := fun e => (List.nodup_cons.1 hap).1 (by rw [e]; exact List.mem_cons_self ..)
  have hnb : ∀ p ∈ T.nodes, ∀ b ∈ p.2.foot, b ≠ T.bm := fun p hp b hb e => (List.nodup_cons.1 (List.nodup_cons.1 hap).2).1 (e ▸ List.mem_flatMap.2 ⟨p, hp, hb⟩)
  refine ⟨⟨hS _ _ H.at_.cells hcb, ⟨o, hbm, by rw [nodesV_put hi]; exact ho⟩, fun p hp => ?_⟩, ?_, ?_⟩
  · unfold Tr.setN at hp
    rw [put_new hi] at hp
    rcases List.mem_append.1 hp with hp | hp
    · exact (H.at_.node p hp).mono (fun b x hb hx => hS _ _ hx (hnb p hp b hb)) (fun _ _ h => h)
    · rw [List.mem_singleton.1 hp]; exact hN
  · rw [foot_put hi, ← List.cons_append]
    refine List.nodup_append.2 ⟨hap, hnd, fun a ha b hb e => ?_⟩
    have h1 := hlow a ha
    have h2 := (hnew b hb).1
    omega
  · intro b hb
    rw [foot_put hi, ← List.cons_append] at hb
    rcases List.mem_append.1 hb with hb | hb
    · exact H.high b hb
    · exact (hnew b hb).2
theorem Part.mono {S S2 : Blocks} {D : Value → List Int → Prop} {c B : Nat} {T : Tr} (H : Part S D c T B) (hS : ∀ b x, b ∈ c :: T.foot → (b, x) ∈ S → (b, x) ∈ S2) : Part S2 D c T B := ⟨H.at_.mono (fun b x hb hx => hS b x hb hx) (fun _ _ h => h), H.apart, H.high⟩
theorem kept_in {h : Nat → Obj → Prop} {D : Value → List Int → Prop} {t : Nat} {T : Tr} (H : TreeIn h D t T) : ∀ b ∈ t :: T.foot, ∃ o, h b o := by
  intro b hb
  rcases List.mem_cons.1 hb with rfl | hb
  · exact ⟨_, H.cells⟩
  · rcases List.mem_cons.1 hb with rfl | hb
    · obtain ⟨o, h1, _⟩ := H.map; exact ⟨o, h1⟩
    · obtain ⟨p, hp, hb⟩ := List.mem_flatMap.1 hb
      have hN := H.node p hp
      rcases List.mem_cons.1 hb with rfl | hb
      · exact ⟨_, hN.cells⟩
      · have : p.2.k = some b := by
          cases hk : p.2.k with
          | none => rw [hk] at hb; simp at hb
          | some k => rw [hk] at hb; simp at hb; rw [hb]
        obtain ⟨o, h1, _⟩ := hN.kid b this
        exact ⟨o, h1⟩
def Added (w0 : World) (S2 : Blocks) (L : List Rw) (D : Value → List Int → Prop) (c B : Nat) (T : Tr) (i : Int) (n : Nd) (b : Nat) (W : World) : Prop :=
  ∃ o S5 n', (Instr.mapUpdate 73 (.map (some T.bm)) (.int .i64 i) (.pointer (some ⟨b, 0, none⟩))).run Tryz.prog W = .ok () (setBlock W T.bm o) ∧ Own ⟨w0, S5⟩ (setBlock W T.bm o) L ∧ Part S5 D c (T.setN i n') B ∧ n'.er = n.er ∧ (∀ b x, (b, x) ∈ S2 → b ≠ T.bm → (b, x) ∈ S5) ∧
    (∀ b ∈ c :: (T.setN i n').foot, b ∈ c :: T.foot ∨ ∀ x, (b, x) ∉ S2)
theorem add_dir {w0 w2 : World} {S2 : Blocks} {L : List Rw} {D : Value → List Int → Prop} {c B : Nat} {T : Tr} (hO : Own ⟨w0, S2⟩ w2 L) (P : Part S2 D c T B) {i : Int} (hi : i ∉ T.nodes.map (·.1)) (hB : B ≤ w2.heap.size) {n : Nd} {k : Nat} (hk : n.k = some k) {es : Array MapEntry} {clock : Nat}
    (hm : MapO KS (.map es clock) (kidsV n.kids)) (hD : D n.dv n.data) (hf : ∃ a c, n.dv = .slice a n.data.length c) :
    Added w0 S2 L D c B T i n (w2.heap.size + 1) ((w2.alloc (.map es clock)).alloc (.cells #[.map (some w2.heap.size), n.dv, .int .i64 n.places] 86)).drew := by
  have h3 := hO.newB (.map es clock)
  have h4 := (h3.newB (.cells #[.map (some w2.heap.size), n.dv, .int .i64 n.places] 86)).drew
  rw [show (w2.alloc (.map es clock)).heap.size = w2.heap.size + 1 by simp] at h4
  obtain ⟨o1, m1, m2⟩ := P.at_.map
  have hlow : ∀ b ∈ c :: T.foot, b < w2.heap.size := fun b hb => by
    obtain ⟨x, hx⟩ := kept_in P.at_ b hb
    exact (hO.atLt hx).2
  have hbm : T.bm < w2.heap.size := hlow _ (List.mem_cons_of_mem _ (List.mem_cons_self ..))
  have m1' := List.mem_cons_of_mem (w2.heap.size + 1, Obj.cells #[.map (some w2.heap.size), n.dv, .int .i64 n.places] 86) (List.mem_cons_of_mem (w2.heap.size, Obj.map es clock) m1)
  obtain ⟨o, hup, hm2⟩ := m2.update kindsI Tryz.underlying73 (h4.at m1') i (.pointer (some ⟨w2.heap.size + 1, 0, none⟩))
  have h5 := h4.setB m1' o
  refine ⟨o, _, ⟨w2.heap.size + 1, some w2.heap.size, n.kids, n.dv, n.data, n.places⟩, hup, h5, P.add hi hm2 (fun b x hb hne => upd_other (List.mem_cons_of_mem _ (List.mem_cons_of_mem _ hb)) hne _) (upd_same m1' o) ?_ hlow ?_ ?_, ?_, fun b x hb hne => upd_other (List.mem_cons_of_mem _ (List.mem_cons_of_mem _ hb)) hne _, ?_⟩
  · refine ⟨upd_other (List.mem_cons_self ..) (by show w2.heap.size + 1 ≠ _; omega) _, fun k2 hk2 => ?_, (fun h => by cases h), hD, hf⟩
    have : w2.heap.size = k2 := by injection hk2
    subst this
    exact ⟨_, upd_other (List.mem_cons_of_mem _ (List.mem_cons_self ..)) (by omega) _, hm⟩
  · intro b hb
    have : b ∈ [w2.heap.size + 1, w2.heap.size] := hb
    simp at this; omega
  · show ([w2.heap.size + 1, w2.heap.size] : List Nat).Nodup
    simp
  · unfold Nd.er; rw [hk]; rfl
  · intro b hb
    rw [foot_put hi, ← List.cons_append] at hb
    rcases List.mem_append.1 hb with hb | hb
    · exact .inl hb
    · right
      intro x hx
      have h1 := (hO.atLt hx).2
      have : b ∈ [w2.heap.size + 1, w2.heap.size] := hb
      simp at this; omega
theorem add_file {w0 w2 : World} {S2 : Blocks} {L : List Rw} {D : Value → List Int → Prop} {c B : Nat} {T : Tr} (hO : Own ⟨w0, S2⟩ w2 L) (P : Part S2 D c T B) {i : Int} (hi : i ∉ T.nodes.map (·.1)) (hB : B ≤ w2.heap.size) {n : Nd} (hk : n.k = none) (hkids : n.kids = [])
    (hD : D n.dv n.data) (hf : ∃ a c, n.dv = .slice a n.data.length c) :
    Added w0 S2 L D c B T i n w2.heap.size (w2.alloc (.cells #[.map none, n.dv, .int .i64 n.places] 86)).drew := by
  have h4 := (hO.newB (.cells #[.map none, n.dv, .int .i64 n.places] 86)).drew
  obtain ⟨o1, m1, m2⟩ := P.at_.map
  have hlow : ∀ b ∈ c :: T.foot, b < w2.heap.size := fun b hb => by
    obtain ⟨x, hx⟩ := kept_in P.at_ b hb
    exact (hO.atLt hx).2
  have hbm : T.bm < w2.heap.size := hlow _ (List.mem_cons_of_mem _ (List.mem_cons_self ..))
  have m1' := List.mem_cons_of_mem (w2.heap.size, Obj.cells #[.map none, n.dv, .int .i64 n.places] 86) m1
  obtain ⟨o, hup, hm2⟩ := m2.update kindsI Tryz.underlying73 (h4.at m1') i (.pointer (some ⟨w2.heap.size, 0, none⟩))
  have h5 := h4.setB m1' o
  refine ⟨o, _, ⟨w2.heap.size, none, n.kids, n.dv, n.data, n.places⟩, hup, h5, P.add hi hm2 (fun b x hb hne => upd_other (List.mem_cons_of_mem _ hb) hne _) (upd_same m1' o) ?_ hlow ?_ ?_, ?_, fun b x hb hne => upd_other (List.mem_cons_of_mem _ hb) hne _, ?_⟩
  · exact ⟨upd_other (List.mem_cons_self ..) (by show w2.heap.size ≠ _; omega) _, (fun k2 hk2 => by cases hk2), (fun _ => hkids), hD, hf⟩
  · intro b hb
    have : b ∈ [w2.heap.size] := hb
    simp at this; omega
  · show ([w2.heap.size] : List Nat).Nodup
    simp
  · unfold Nd.er; rw [hk]
  · intro b hb
    rw [foot_put hi, ← List.cons_append] at hb
    rcases List.mem_append.1 hb with hb | hb
    · exact .inl hb
    · right
      intro x hx
      have h1 := (hO.atLt hx).2
      have : b ∈ [w2.heap.size] := hb
      simp at this; omega
end Go.Proofs.YtamkfadammlhbaaGreatDoor
