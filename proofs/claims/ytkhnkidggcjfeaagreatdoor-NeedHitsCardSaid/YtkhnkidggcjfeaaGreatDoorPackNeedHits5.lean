/- Texts one behind the other, each in a section of its own: what calls make of memory, step by step. -/
import Derived.Test.YtkhnkidggcjfeaaGreatDoorPackNeedHits4
import Derived.StillTailTactics
import Derived.Shelf.SlMaps.Clone
import Derived.Deep.RegionHeld3
set_option linter.unusedVariables false
set_option linter.unusedSimpArgs false
set_option maxRecDepth 100000
section
namespace Go.Proofs.YtkhnkidggcjfeaaGreatDoor
open Go.RowKit
open Go.ChangeMaps (setBlock)
section
variable {α β : Type} [DecidableEq α]
theorem look_put (m : List (α × β)) (i j : α) (v : β) : look (put m i v) j = if j = i then some v else look m j := by
  induction m with
  | nil =>
    unfold put look
    by_cases h : j = i
    · rw [if_pos h.symm, if_pos h]
    · rw [if_neg (fun e => h e.symm), if_neg h]; rfl
  | cons p r ih =>
    unfold put
    by_cases hp : p.1 = i
    · rw [if_pos hp]
      unfold look
      by_cases h : j = i
      · rw [if_pos h, if_pos h.symm]
      · rw [if_neg (fun e => h e.symm), if_neg h, if_neg (fun e => h (e.symm.trans hp))]
    · rw [if_neg hp]
      unfold look
      by_cases h : p.1 = j
      · rw [if_pos h, if_pos h, if_neg (fun e => hp (h.trans e))]
      · rw [if_neg h, if_neg h]; exact ih
theorem put_keys {m : List (α × β)} {i : α} {n : β} (h : look m i = some n) (v : β) : (put m i v).map (·.1) = m.map (·.1) := by
  induction m with
  | nil => cases h
  | cons p r ih =>
    unfold put
    unfold look at h
    by_cases hp : p.1 = i
    · rw [if_pos hp]; simp [hp]
    · rw [if_neg hp] at h ⊢
      simp [ih h]
theorem mem_put {m : List (α × β)} {i : α} {n : β} (hd : (m.map (·.1)).Nodup) (h : look m i = some n) {v : β} {p : α × β} (hp : p ∈ put m i v) : p = (i, v) ∨ (p ∈ m ∧ p.1 ≠ i) := by
  induction m with
  | nil => cases h
  | cons q r ih =>
    rw [List.map_cons, List.nodup_cons] at hd
    unfold put at hp
    unfold look at h
    by_cases hq : q.1 = i
    · rw [if_pos hq] at hp
      rcases List.mem_cons.1 hp with rfl | hp
      · exact .inl rfl
      · refine .inr ⟨List.mem_cons_of_mem _ hp, fun e => hd.1 ?_⟩
        rw [hq, ← e]; exact List.mem_map_of_mem hp
    · rw [if_neg hq] at hp h
      rcases List.mem_cons.1 hp with rfl | hp
      · exact .inr ⟨List.mem_cons_self .., hq⟩
      · rcases ih hd.2 h hp with h1 | ⟨h1, h2⟩
        · exact .inl h1
        · exact .inr ⟨List.mem_cons_of_mem _ h1, h2⟩
theorem put_map {γ : Type} (f : β → γ) {m : List (α × β)} {i : α} {n v : β} (h : look m i = some n) (hv : f v = f n) : (put m i v).map (fun p => (p.1, f p.2)) = m.map (fun p => (p.1, f p.2)) := by
  induction m with
  | nil => cases h
  | cons p r ih =>
    unfold put
    unfold look at h
    by_cases hp : p.1 = i
    · rw [if_pos hp] at h ⊢
      injection h with h
      simp [hp, hv, h]
    · rw [if_neg hp] at h ⊢
      simp [ih h]
theorem put_flat {γ : Type} (f : β → List γ) {m : List (α × β)} {i : α} {n v : β} (h : look m i = some n) (hv : f v = f n) : (put m i v).flatMap (fun p => f p.2) = m.flatMap (fun p => f p.2) := by
  have := put_map f h hv
  have e : ∀ l : List (α × β), l.flatMap (fun p => f p.2) = (l.map (fun p => (p.1, f p.2))).flatMap (·.2) := fun l => by rw [List.flatMap_map]
  rw [e, e, this]
theorem look_some_of_key {m : List (α × β)} {i : α} (h : i ∈ m.map (·.1)) : ∃ v, look m i = some v := by
  induction m with
  | nil => cases h
  | cons p r ih =>
    unfold look
    by_cases hp : p.1 = i
    · exact ⟨p.2, by rw [if_pos hp]⟩
    · rw [if_neg hp]
      simp only [List.map_cons, List.mem_cons] at h
      rcases h with h | h
      · exact absurd h.symm hp
      · exact ih h
theorem look_of_mem {m : List (α × β)} (hd : (m.map (·.1)).Nodup) {p : α × β} (hp : p ∈ m) : look m p.1 = some p.2 := by
  induction m with
  | nil => cases hp
  | cons q r ih =>
    rw [List.map_cons, List.nodup_cons] at hd
    unfold look
    rcases List.mem_cons.1 hp with rfl | hp
    · rw [if_pos rfl]
    · rw [if_neg (fun e => hd.1 (by rw [e]; exact List.mem_map_of_mem hp))]
      exact ih hd.2 hp
end
def Tr.setN (T : Tr) (i : Int) (n : Nd) : Tr := { T with nodes := put T.nodes i n }
theorem foot_apart {t : Nat} {T : Tr} (h : (t :: T.foot).Nodup) {p q : Int × Nd} (hp : p ∈ T.nodes) (hq : q ∈ T.nodes) (hd : (T.nodes.map (·.1)).Nodup) (hne : p.1 ≠ q.1) {b : Nat} (hb : b ∈ p.2.foot) : b ∉ q.2.foot := by
  unfold Tr.foot at h
  have h2 := (List.nodup_cons.1 (List.nodup_cons.1 h).2).2
  clear h
  generalize T.nodes = m at *
  induction m with
  | nil => cases hp
  | cons x r ih =>
    rw [List.flatMap_cons] at h2
    obtain ⟨a1, a2, a3⟩ := List.nodup_append.1 h2
    rw [List.map_cons, List.nodup_cons] at hd
    rcases List.mem_cons.1 hp with rfl | hp'
    · rcases List.mem_cons.1 hq with rfl | hq'
      · exact absurd rfl hne
      · exact fun hx => a3 b hb b (List.mem_flatMap.2 ⟨q, hq', hx⟩) rfl
    · rcases List.mem_cons.1 hq with rfl | hq'
      · exact fun hx => a3 b hx b (List.mem_flatMap.2 ⟨p, hp', hb⟩) rfl
      · exact ih hp' hq' hd.2 a2
theorem Tree.setN {S S' : Blocks} {D : Value → List Int → Prop} {t : Nat} {T : Tr} (H : Tree S D t T) {i : Int} {n n' : Nd} (hn : look T.nodes i = some n) (hb : n'.b = n.b) (hk : n'.k = n.k)
    (hS : ∀ b o, (b, o) ∈ S → b ∉ n.foot → (b, o) ∈ S') (hN : NodeIn (inS S') D n') (hg : ∀ q ∈ n'.kids, ∃ m, look T.nodes q.2 = some m) : Tree S' D t (T.setN i n') := by
  have hf : n'.foot = n.foot := by unfold Nd.foot; rw [hb, hk]
  have hfoot : (T.setN i n').foot = T.foot := by
    unfold Tr.foot Tr.setN
    rw [put_flat (fun n : Nd => n.foot) hn hf]
  have hmem := look_mem hn
  have ht : t ∉ n.foot := fun hx => (List.nodup_cons.1 H.apart).1 (foot_mem hmem hx)
  have hbm : T.bm ∉ n.foot := fun hx => (List.nodup_cons.1 (List.nodup_cons.1 H.apart).2).1 (List.mem_flatMap.2 ⟨_, hmem, hx⟩)
  have hlk : ∀ j m, look T.nodes j = some m → ∃ m', look (T.setN i n').nodes j = some m' := fun j m hj => by
    unfold Tr.setN
    rw [look_put]
    split
    · exact ⟨_, rfl⟩
    · exact ⟨m, hj⟩
  obtain ⟨o, h1, h2⟩ := H.at_.map
  refine ⟨⟨hS _ _ H.at_.cells ht, ⟨o, hS _ _ h1 hbm, ?_⟩, fun p hp => ?_⟩, by rw [hfoot]; exact H.apart, ⟨?_, ?_, ?_, ?_⟩⟩
  · have : nodesV (T.setN i n') = nodesV T := put_map (fun n : Nd => Value.pointer (some ⟨n.b, 0, none⟩)) hn (by rw [hb])
    rw [this]; exact h2
  · rcases mem_put H.good.keys hn hp with rfl | ⟨h3, h4⟩
    · exact hN
    · exact (H.at_.node p h3).mono (fun b o hb2 ho => hS _ _ ho (foot_apart H.apart h3 hmem H.good.keys h4 hb2)) (fun _ _ h => h)
  · unfold Tr.setN; rw [put_keys hn]; exact H.good.keys
  · obtain ⟨r, k, h3, h4⟩ := H.good.root
    unfold Tr.setN
    rw [look_put]
    by_cases h : (1 : Int) = i
    · rw [if_pos h]
      subst h
      rw [h3] at hn
      injection hn with hn
      subst hn
      exact ⟨n', k, rfl, by rw [hk]; exact h4⟩
    · rw [if_neg h]; exact ⟨r, k, h3, h4⟩
  · intro p hp q hq
    rcases mem_put H.good.keys hn hp with rfl | ⟨h3, _⟩
    · obtain ⟨m, hm⟩ := hg q hq
      exact hlk _ _ hm
    · obtain ⟨m, hm⟩ := H.good.kids p h3 q hq
      exact hlk _ _ hm
  · intro p hp
    rcases mem_put H.good.keys hn hp with rfl | ⟨h3, _⟩
    · exact (show 1 ≤ i ∧ (i = 1 ∨ i < T.next) from H.good.low _ hmem)
    · exact H.good.low p h3
theorem Tree.setKids {S : Blocks} {D : Value → List Int → Prop} {t : Nat} {T : Tr} (H : Tree S D t T) {i : Int} {n : Nd} (hn : look T.nodes i = some n) {k : Nat} (hk : n.k = some k) {o' : Obj} {kids' : List (ByteArray × Int)}
    (ho : MapO KS o' (kidsV kids')) (hg : ∀ q ∈ kids', ∃ m, look T.nodes q.2 = some m) : Tree (upd S k o') D t (T.setN i { n with kids := kids' }) := by
  have hN := H.at_.node _ (look_mem hn)
  have hkb : n.b ≠ k := fun e => by
    have h1 := (List.nodup_cons.1 (List.nodup_cons.1 H.apart).2).2
    have h2 : n.foot.Nodup := by
      obtain ⟨a, z, hz⟩ := List.append_of_mem (look_mem hn)
      rw [hz, List.flatMap_append, List.flatMap_cons] at h1
      exact (List.nodup_append.1 (List.nodup_append.1 h1).2.1).1
    unfold Nd.foot at h2
    rw [hk, e] at h2
    simp at h2
  obtain ⟨o, h1, _⟩ := hN.kid k hk
  refine H.setN hn rfl rfl (fun b x hb hnb => upd_other hb (fun e => hnb (by rw [e]; unfold Nd.foot; rw [hk]; simp)) o') ⟨upd_other hN.cells hkb o', fun k2 hk2 => ?_, (fun h => by rw [hk] at h; cases h), hN.dat, hN.form⟩ hg
  have : k = k2 := by rw [hk] at hk2; injection hk2
  subst this
  exact ⟨o', upd_same h1 o', ho⟩
theorem Tree.setCells {S : Blocks} {D : Value → List Int → Prop} {t : Nat} {T : Tr} (H : Tree S D t T) {i : Int} {n : Nd} (hn : look T.nodes i = some n) (n' : Nd) (hb : n'.b = n.b) (hk : n'.k = n.k) (hkids : n'.kids = n.kids)
    (hd : D n'.dv n'.data) (hf : ∃ a c, n'.dv = .slice a n'.data.length c) : Tree (upd S n.b (.cells (nodeCells n') 133)) D t (T.setN i n') := by
  have hN := H.at_.node _ (look_mem hn)
  have hfd : n.foot.Nodup := by
    have h1 := (List.nodup_cons.1 (List.nodup_cons.1 H.apart).2).2
    obtain ⟨a, z, hz⟩ := List.append_of_mem (look_mem hn)
    rw [hz, List.flatMap_append, List.flatMap_cons] at h1
    exact (List.nodup_append.1 (List.nodup_append.1 h1).2.1).1
  refine H.setN hn hb hk (fun b x hb2 hnb => upd_other hb2 (fun e => hnb (by rw [e]; exact List.mem_cons_self ..)) _) ⟨by rw [hb]; exact upd_same hN.cells _, fun k2 hk2 => ?_, fun h => by rw [hkids]; exact hN.file (hk ▸ h), hd, hf⟩ (fun q hq => H.good.kids _ (look_mem hn) q (hkids ▸ hq))
  rw [hk] at hk2
  obtain ⟨o, h1, h2⟩ := hN.kid k2 hk2
  refine ⟨o, upd_other h1 (fun e => ?_) _, by rw [hkids]; exact h2⟩
  unfold Nd.foot at hfd
  rw [hk2, e] at hfd
  simp at hfd
end Go.Proofs.YtkhnkidggcjfeaaGreatDoor
end
section
namespace Go.Proofs.YtkhnkidggcjfeaaGreatDoor
open Go.RowKit
open Go.ChangeMaps (setBlock)
def putT (T : Tr) (j : Int) (nd : Nd) (name : ByteArray) (i : Int) (f : Nd) : Tr := (T.setN j { nd with kids := put nd.kids name i }).setN i { f with places := f.places + 1 }
def Done (w0 : World) (S : Blocks) (L : List Rw) (D : Value → List Int → Prop) (t : Nat) (T T' : Tr) (w : World) (r : Value) (e : Ending) (w' : World) : Prop :=
  ∃ S', e = .returned r ∧ Own ⟨w0, S'⟩ w' L ∧ Tree S' D t T' ∧ Frame S S' (t :: T.foot) (t :: T'.foot) w.heap.size
theorem mem_putk {m : List (ByteArray × Int)} {a : ByteArray} {v : Int} {q : ByteArray × Int} (h : q ∈ put m a v) : q = (a, v) ∨ q ∈ m := by
  induction m with
  | nil => unfold put at h; exact .inl (List.mem_singleton.1 h)
  | cons p r ih =>
    unfold put at h
    split at h
    · rcases List.mem_cons.1 h with h | h
      · exact .inl h
      · exact .inr (List.mem_cons_of_mem _ h)
    · rcases List.mem_cons.1 h with h | h
      · exact .inr (h ▸ List.mem_cons_self ..)
      · rcases ih h with h | h
        · exact .inl h
        · exact .inr (List.mem_cons_of_mem _ h)
theorem put_kidsV (kids : List (ByteArray × Int)) (a : ByteArray) (i : Int) : put (kidsV kids) a (.int .i64 i) = kidsV (put kids a i) := by
  unfold kidsV
  induction kids with
  | nil => rfl
  | cons p r ih =>
    simp only [List.map_cons, put]
    split
    · simp
    · rw [ih]; simp
theorem setN_foot {T : Tr} {i : Int} {n n' : Nd} (hn : look T.nodes i = some n) (hb : n'.b = n.b) (hk : n'.k = n.k) : (T.setN i n').foot = T.foot := by
  unfold Tr.foot Tr.setN
  rw [put_flat (fun n : Nd => n.foot) hn (by unfold Nd.foot; rw [hb, hk])]
theorem foot_node {T : Tr} {i : Int} {n : Nd} (hn : look T.nodes i = some n) : n.b ∈ T.foot ∧ ∀ k, n.k = some k → k ∈ T.foot :=
  ⟨foot_mem (look_mem hn) (List.mem_cons_self ..), fun k hk => foot_mem (look_mem hn) (show k ∈ n.foot by unfold Nd.foot; rw [hk]; simp)⟩
set_option maxHeartbeats 1000000 in
theorem put_any {w0 w : World} {S : Blocks} {L : List Rw} {D : Value → List Int → Prop} {t : Nat} {T : Tr} (hO : Own ⟨w0, S⟩ w L) (H : Tree S D t T) {j : Int} {nd : Nd} {k : Nat} (hj : look T.nodes j = some nd) (hk : nd.k = some k) (name : ByteArray)
    {i : Int} {f : Nd} (hi : look T.nodes i = some f) (hf : f.k = none) (hp0 : 0 ≤ f.places) (hp : f.places ≤ 1000000000) :
    Calls Tryz.prog 139 #[.pointer (some ⟨t, 0, none⟩), .agg #[.pointer (some ⟨nd.b, 0, none⟩), .string name], .int .i64 i] w (Done w0 S L D t T (putT T j nd name i f) w (.tuple #[])) := by
  have hij : i ≠ j := fun e => by subst e; rw [hi] at hj; injection hj with hj; subst hj; rw [hf] at hk; cases hk
  have hO1 := hO.alloc (.cells #[.pointer (some ⟨nd.b, 0, none⟩), .string name] 180)
  obtain ⟨w1, hw1⟩ : ∃ w1, w1 = w.alloc (.cells #[.pointer (some ⟨nd.b, 0, none⟩), .string name] 180) := ⟨_, rfl⟩
  have p0 : w1.cell? ⟨w.heap.size, 0, none⟩ = some (.pointer (some ⟨nd.b, 0, none⟩)) := by rw [hw1, World.cell?_alloc_new]; rfl
  have p1 : w1.cell? ⟨w.heap.size, 1, none⟩ = some (.string name) := by rw [hw1, World.cell?_alloc_new]; rfl
  rw [← hw1] at hO1
  have hN := H.at_.node _ (look_mem hj)
  have c0 : w1.cell? ⟨nd.b, 0, none⟩ = some (.map (some k)) := by rw [hO1.cellB hN.cells 0, ← hk]; rfl
  obtain ⟨o, h1, h2⟩ := hN.kid k hk
  obtain ⟨o', hup, hm'⟩ := h2.update (w := w1.drew) kindsS Tryz.underlying29 (hO1.at h1) name (.int .i64 i)
  rw [put_kidsV] at hm'
  have hO2 := (hO1.drew).setB h1 o'
  have H2 := H.setKids hj hk hm' (fun q hq => by
    rcases mem_putk hq with rfl | hq
    · exact ⟨f, hi⟩
    · exact H.good.kids _ (look_mem hj) q hq)
  obtain ⟨w2, hw2⟩ : ∃ w2, w2 = setBlock w1.drew k o' := ⟨_, rfl⟩
  rw [← hw2] at hup hO2
  have hi2 : look (T.setN j { nd with kids := put nd.kids name i }).nodes i = some f := by unfold Tr.setN; rw [look_put, if_neg hij]; exact hi
  have hR := H2.at_.inWorld hO2
  obtain ⟨_, _, d2⟩ := hR.at0
  have hlk := hR.look i
  rw [hi2] at hlk
  dsimp only [ptrOf] at hlk
  have hF := H2.at_.node _ (look_mem hi2)
  have f2 : w2.cell? ⟨f.b, 2, none⟩ = some (.int .i64 f.places) := by rw [hO2.cellB hF.cells 2]; rfl
  have fz : w2.frozen? ⟨f.b, 2, none⟩ = false := free_at (hO2.at hF.cells) 2
  have hO3 := hO2.storeB hF.cells 2 (.int .i64 (f.places + 1))
  have H3 := H2.setCells hi2 { f with places := f.places + 1 } rfl rfl rfl hF.dat hF.form
  have hfr : Frame S (upd (upd S k o') f.b (.cells (nodeCells { f with places := f.places + 1 }) 133)) (t :: T.foot) (t :: (putT T j nd name i f).foot) w.heap.size := by
    have e : (putT T j nd name i f).foot = T.foot := (setN_foot (n' := { f with places := f.places + 1 }) hi2 rfl rfl).trans (setN_foot (n' := { nd with kids := put nd.kids name i }) hj rfl rfl)
    refine ⟨fun b x hb hnb => ?_, fun b hb => .inl (by rwa [e] at hb)⟩
    have q1 := (foot_node hj).2 k hk
    have q2 := (foot_node hi).1
    exact upd_other (upd_other hb (fun e => hnb (by rw [e]; exact List.mem_cons_of_mem _ q1)) _) (fun e => hnb (by rw [e]; exact List.mem_cons_of_mem _ q2)) _
  have HP := Lib.hid (show Done w0 S L D t T (putT T j nd name i f) w (.tuple #[]) (.returned (.tuple #[])) (w2.setCell ⟨f.b, 2, none⟩ (.int .i64 (f.places + 1))) from ⟨_, rfl, hO3, H3, hfr⟩)
  have hwr : IntKind.i64.wrap (f.places + 1) = f.places + 1 := IntWalk.i64_in _ (by omega)
  have hbm := (T.setN j { nd with kids := put nd.kids name i }).bm
  clear hO hO1 hO2 hO3 H H2 H3 hfr hN hF hR h1 h2 hm' hi2 hi hj hk hf
  go_enter Tryz.func139, Tryz.ntmps139
  go_wp2_with fail
  rw [← hw1]
  clear hw1 hw2
  have q0 : w1.drew.cell? ⟨w.heap.size, 0, none⟩ = some (.pointer (some ⟨nd.b, 0, none⟩)) := p0
  go_still_tail 8, (by kernel_rfl)
  repeat still_step
  go_wp2_with fail
  refine bodyPost_end (v := .tuple #[]) ?_ rfl HP.out
  simp [results, Tryz.results139, go_sem]
end Go.Proofs.YtkhnkidggcjfeaaGreatDoor
end
section
namespace Go.Proofs.YtkhnkidggcjfeaaGreatDoor
open Go.RowKit
open Go.ChangeMaps (setBlock)
theorem NodeIn.look1 {w : World} {D : Value → List Int → Prop} {n : Nd} (H : NodeIn (inW w) D n) {k : Nat} (hk : n.k = some k) (s : ByteArray) :
    (Instr.lookup 29 (.map (some k)) (.string s) false).run Tryz.prog w = .ok (.int .i64 ((Go.Proofs.YtkhnkidggcjfeaaGreatDoor.look n.kids s).getD 0)) w := by
  obtain ⟨o, h1, h2⟩ := H.kid k hk
  have := MapO.lookup kindsS Tryz.underlying29 (zeroInt w) h2 h1 s false
  have e := look_map (fun i : Int => Value.int .i64 i) n.kids s
  rw [show kidsV n.kids = n.kids.map fun p => (p.1, (fun i : Int => Value.int .i64 i) p.2) from rfl, e] at this
  rw [this]
  cases Go.Proofs.YtkhnkidggcjfeaaGreatDoor.look n.kids s <;> rfl
theorem mem_del {β : Type} {m : List (ByteArray × β)} {a : ByteArray} {q : ByteArray × β} (h : q ∈ del m a) : q ∈ m := by
  induction m with
  | nil => exact h
  | cons p r ih =>
    unfold del at h
    split at h
    · exact List.mem_cons_of_mem _ h
    · rcases List.mem_cons.1 h with h | h
      · exact h ▸ List.mem_cons_self ..
      · exact List.mem_cons_of_mem _ (ih h)
theorem del_kidsV (kids : List (ByteArray × Int)) (a : ByteArray) : del (kidsV kids) a = kidsV (del kids a) := by
  unfold kidsV
  induction kids with
  | nil => rfl
  | cons p r ih =>
    simp only [List.map_cons]
    unfold del
    split
    · rfl
    · rw [ih]; simp
def takeT (T : Tr) (j : Int) (nd : Nd) (name : ByteArray) (i : Int) (f : Nd) : Tr := (T.setN i { f with places := f.places - 1 }).setN j { nd with kids := del nd.kids name }
set_option maxHeartbeats 1000000 in
theorem take_any {w0 w : World} {S : Blocks} {L : List Rw} {D : Value → List Int → Prop} {t : Nat} {T : Tr} (hO : Own ⟨w0, S⟩ w L) (H : Tree S D t T) {j : Int} {nd : Nd} {k : Nat} (hj : look T.nodes j = some nd) (hk : nd.k = some k) (name : ByteArray)
    {i : Int} {f : Nd} (hs : look nd.kids name = some i) (hi : look T.nodes i = some f) (hf : f.k = none) (hp0 : 0 ≤ f.places) (hp : f.places ≤ 1000000000) :
    Calls Tryz.prog 140 #[.pointer (some ⟨t, 0, none⟩), .agg #[.pointer (some ⟨nd.b, 0, none⟩), .string name]] w (Done w0 S L D t T (takeT T j nd name i f) w (.tuple #[])) := by
  have hij : j ≠ i := fun e => by subst e; rw [hi] at hj; injection hj with hj; subst hj; rw [hf] at hk; cases hk
  have hO1 := (hO.alloc (.cells #[.pointer (some ⟨nd.b, 0, none⟩), .string name] 180)).drew
  obtain ⟨w1, hw1⟩ : ∃ w1, w1 = w.alloc (.cells #[.pointer (some ⟨nd.b, 0, none⟩), .string name] 180) := ⟨_, rfl⟩
  have p0 : w1.drew.cell? ⟨w.heap.size, 0, none⟩ = some (.pointer (some ⟨nd.b, 0, none⟩)) := by rw [hw1]; show (w.alloc _).cell? _ = _; rw [World.cell?_alloc_new]; rfl
  have p1 : w1.drew.cell? ⟨w.heap.size, 1, none⟩ = some (.string name) := by rw [hw1]; show (w.alloc _).cell? _ = _; rw [World.cell?_alloc_new]; rfl
  rw [← hw1] at hO1
  have hN := H.at_.node _ (look_mem hj)
  have hR := H.at_.inWorld hO1
  obtain ⟨_, _, d2⟩ := hR.at0
  have hNW := hR.node _ (look_mem hj)
  obtain ⟨c0, _, _⟩ := hNW.at0
  rw [hk] at c0
  have hl1 := hNW.look1 hk name
  rw [hs] at hl1
  dsimp only [Option.getD_some] at hl1
  have hl2 := hR.look i
  rw [hi] at hl2
  dsimp only [ptrOf] at hl2
  have hF := H.at_.node _ (look_mem hi)
  have f2 : w1.drew.cell? ⟨f.b, 2, none⟩ = some (.int .i64 f.places) := by rw [hO1.cellB hF.cells 2]; rfl
  have fz : w1.drew.frozen? ⟨f.b, 2, none⟩ = false := free_at (hO1.at hF.cells) 2
  have hwr : IntKind.i64.wrap (f.places - 1) = f.places - 1 := IntWalk.i64_in _ (by omega)
  have hO2 := (hO1.storeB hF.cells 2 (.int .i64 (f.places - 1))).drew
  have H2 := H.setCells hi { f with places := f.places - 1 } rfl rfl rfl hF.dat hF.form
  have hne : w.heap.size ≠ f.b := fun e => by
    have := (hO.atLt hF.cells).2
    exact absurd (e ▸ this) (Nat.lt_irrefl _)
  obtain ⟨w2, hw2⟩ : ∃ w2, w2 = (w1.setCell ⟨f.b, 2, none⟩ (.int .i64 (f.places - 1))).drew := ⟨_, rfl⟩
  have q0 : w2.drew.cell? ⟨w.heap.size, 0, none⟩ = some (.pointer (some ⟨nd.b, 0, none⟩)) := by
    rw [hw2]; show (w1.drew.setCell _ _).cell? _ = _
    rw [World.cell?_setCell_far _ _ _ _ (fun e => hne e.symm)]; exact p0
  have q1 : w2.drew.cell? ⟨w.heap.size, 1, none⟩ = some (.string name) := by
    rw [hw2]; show (w1.drew.setCell _ _).cell? _ = _
    rw [World.cell?_setCell_far _ _ _ _ (fun e => hne e.symm)]; exact p1
  have hO2 : Own ⟨w0, upd S f.b (.cells (nodeCells { f with places := f.places - 1 }) 133)⟩ w2.drew L := by rw [hw2]; exact hO2
  have hj2 : look (T.setN i { f with places := f.places - 1 }).nodes j = some nd := by unfold Tr.setN; rw [look_put, if_neg hij]; exact hj
  have hN2 := H2.at_.node _ (look_mem hj2)
  have hNW2 := (H2.at_.inWorld hO2).node _ (look_mem hj2)
  obtain ⟨c02, _, _⟩ := hNW2.at0
  rw [hk] at c02
  obtain ⟨o, h1, h2⟩ := hN2.kid k hk
  obtain ⟨o', hdel, hm'⟩ := h2.delete (w := w2.drew) kindsS Tryz.underlying29 (hO2.at h1) name 0
  rw [del_kidsV] at hm'
  have H3 := H2.setKids hj2 hk hm' (fun q hq => H2.good.kids _ (look_mem hj2) q (mem_del hq))
  have hO3 := hO2.setB h1 o'
  have hfr : Frame S (upd (upd S f.b (.cells (nodeCells { f with places := f.places - 1 }) 133)) k o') (t :: T.foot) (t :: (takeT T j nd name i f).foot) w.heap.size := by
    have e : (takeT T j nd name i f).foot = T.foot := (setN_foot (n' := { nd with kids := del nd.kids name }) hj2 rfl rfl).trans (setN_foot (n' := { f with places := f.places - 1 }) hi rfl rfl)
    refine ⟨fun b x hb hnb => ?_, fun b hb => .inl (by rwa [e] at hb)⟩
    have r1 := (foot_node hj).2 k hk
    have r2 := (foot_node hi).1
    exact upd_other (upd_other hb (fun e => hnb (by rw [e]; exact List.mem_cons_of_mem _ r2)) _) (fun e => hnb (by rw [e]; exact List.mem_cons_of_mem _ r1)) _
  have HP := Lib.hid (show Done w0 S L D t T (takeT T j nd name i f) w (.tuple #[]) (.returned (.tuple #[])) (setBlock w2.drew k o') from ⟨_, rfl, hO3, H3, hfr⟩)
  clear hO hO1 hO2 hO3 H H2 H3 hfr hN hN2 hNW hNW2 hF hR h1 h2 hm' hi hj hj2 hk hf hs hne hij
  go_enter Tryz.func140, Tryz.ntmps140
  go_wp2_with fail
  rw [← hw1]
  clear hw1
  go_still_tail 19, (by kernel_rfl)
  go_wp2_with fail
  rw [← hw2]
  clear hw2
  go_still_tail 7, (by kernel_rfl)
  go_wp2_with fail
  trace_state
  refine bodyPost_end (v := .tuple #[]) ?_ rfl HP.out
  simp [results, Tryz.results140, go_sem]
end Go.Proofs.YtkhnkidggcjfeaaGreatDoor
end
section
namespace Go.Proofs.YtkhnkidggcjfeaaGreatDoor
open Go.RowKit
theorem parts_free (l : List UInt8) (h : (47 : UInt8) ∉ l) : partsL l = [l] := by
  induction l with
  | nil => rfl
  | cons c l ih =>
    have h1 : c ≠ 47 := fun e => h (by rw [e]; exact List.mem_cons_self ..)
    unfold partsL
    rw [if_neg h1, ih fun e => h (List.mem_cons_of_mem _ e)]; rfl
theorem parts_app (x : List UInt8) (r : List UInt8) (h : (47 : UInt8) ∉ x) : partsL (x ++ 47 :: r) = x :: partsL r := by
  induction x with
  | nil => show partsL (47 :: r) = _; rw [partsL, if_pos rfl]
  | cons c l ih =>
    have h1 : c ≠ 47 := fun e => h (by rw [e]; exact List.mem_cons_self ..)
    show partsL (c :: (l ++ 47 :: r)) = _
    rw [partsL, if_neg h1, ih fun e => h (List.mem_cons_of_mem _ e)]; rfl
theorem parts_join (ls : List (List UInt8)) (hne : ls ≠ []) (h : ∀ l ∈ ls, (47 : UInt8) ∉ l) : partsL (Lib.join ls [47]) = ls := by
  induction ls with
  | nil => exact absurd rfl hne
  | cons x r ih =>
    rw [Lib.join_cons]
    have hx := h x (List.mem_cons_self ..)
    cases r with
    | nil => simp only [Lib.joinTail, List.map_nil, List.flatten_nil, List.append_nil]; exact parts_free x hx
    | cons y r =>
      have e : Lib.joinTail [47] (y :: r) = 47 :: Lib.join (y :: r) [47] := by
        rw [Lib.join_cons]; simp [Lib.joinTail]
      rw [e, parts_app x _ hx, ih (by simp) fun l hl => h l (List.mem_cons_of_mem _ hl)]
def sumL (ls : List (List UInt8)) : Nat := (ls.map fun l => 1 + l.length).sum
theorem sumL_join (ls : List (List UInt8)) (hne : ls ≠ []) : (joinL ls).length = sumL ls := by
  induction ls with
  | nil => exact absurd rfl hne
  | cons x r ih =>
    cases r with
    | nil => simp [joinL, Lib.join_cons, Lib.joinTail, sumL]; omega
    | cons y r =>
      have h1 := ih (by simp)
      have e : joinL (x :: y :: r) = 47 :: (x ++ joinL (y :: r)) := by
        unfold joinL
        rw [Lib.join_cons, Lib.join_cons]; simp [Lib.joinTail]
      rw [e, List.length_cons, List.length_append, h1]
      show _ = ((1 + x.length) :: ((y :: r).map fun l => 1 + l.length)).sum
      rw [List.sum_cons]
      show _ = _ + sumL (y :: r)
      omega
def rightL (ls : List (List UInt8)) : Bool := decide (0 < ls.length ∧ ls.length ≤ 5) && ls.all nameL
theorem okP_join (ls : List (List UInt8)) (hne : ls ≠ []) (h47 : joinL ls ≠ [47]) (h : ∀ l ∈ ls, (47 : UInt8) ∉ l) : okP (joinL ls) = (rightL ls && decide (sumL ls ≤ 40)) ∧ (okP (joinL ls) = true → namesL (joinL ls) = ls) := by
  have e : (joinL ls).tail = Lib.join ls [47] := rfl
  have hp : partsL (joinL ls).tail = ls := by rw [e]; exact parts_join ls hne h
  have hpos : 0 < ls.length := List.length_pos_iff.2 hne
  refine ⟨?_, fun ho => ?_⟩
  · unfold okP rightL
    rw [decide_eq_false h47, hp, sumL_join ls hne]
    have hh : (joinL ls).head? = some 47 := rfl
    rw [decide_eq_true hh]
    by_cases h5 : ls.length ≤ 5
    · rw [decide_eq_true h5, decide_eq_true (show 0 < ls.length ∧ ls.length ≤ 5 from ⟨hpos, h5⟩)]
      simp [Bool.and_comm]
    · rw [decide_eq_false h5, decide_eq_false (show ¬ (0 < ls.length ∧ ls.length ≤ 5) from fun h => h5 h.2)]
      simp
  · unfold namesL; rw [if_neg h47, ho, hp]; rfl
theorem sumL_glue (p : List UInt8) {r : List (List UInt8)} (h : r ≠ []) : sumL (glue p r) = p.length + sumL r := by
  cases r with
  | nil => exact absurd rfl h
  | cons q r => simp [glue, sumL]; omega
theorem sumL_parts (l : List UInt8) : sumL (partsL l) = l.length + 1 := by
  induction l with
  | nil => rfl
  | cons c l ih =>
    unfold partsL
    split
    · simp only [sumL, List.map_cons, List.sum_cons] at ih ⊢
      simp only [List.length_nil, List.length_cons]; omega
    · rw [sumL_glue _ (partsL_ne l), ih]; simp; omega
theorem sumL_append (a b : List (List UInt8)) : sumL (a ++ b) = sumL a + sumL b := by unfold sumL; rw [List.map_append, List.sum_append]
theorem parent_path {l : List UInt8} {ini : List (List UInt8)} {z : List UInt8} (h : namesL l = ini ++ [z]) : okP (joinL ini) = true ∧ namesL (joinL ini) = ini := by
  obtain ⟨h5, h6⟩ := names_bounds l
  rw [h] at h5 h6
  have hok : l ≠ [47] ∧ okP l = true ∧ partsL l.tail = ini ++ [z] := by
    unfold namesL at h
    split at h
    · exact absurd h (by simp)
    · rename_i h1
      split at h
      · rename_i h2; exact ⟨h1, h2, h⟩
      · exact absurd h (by simp)
  obtain ⟨h1, h2, h3⟩ := hok
  have hlen : l.length ≤ 40 ∧ l.head? = some 47 := by
    unfold okP at h2
    rw [decide_eq_false h1] at h2
    simp only [Bool.false_or, Bool.and_eq_true, decide_eq_true_eq] at h2
    exact ⟨h2.1.1.1, h2.1.1.2⟩
  have hs := sumL_parts l.tail
  rw [h3, sumL_append] at hs
  have hl : l.tail.length + 1 = l.length := by
    cases l with
    | nil => simp at hlen
    | cons c r => simp
  cases ini with
  | nil => exact ⟨by decide, by decide⟩
  | cons x r =>
    have hne : (x :: r) ≠ [] := by simp
    have hn : ∀ n ∈ x :: r, nameL n = true := fun n hn => h6 n (List.mem_append_left _ hn)
    have h47 : joinL (x :: r) ≠ [47] := fun e => by
      have h7 := congrArg List.length e
      rw [sumL_join _ hne] at h7
      have h8 := (name_len (hn x (List.mem_cons_self ..))).1
      simp only [sumL, List.map_cons, List.sum_cons, List.length_cons, List.length_nil] at h7
      omega
    obtain ⟨h9, h10⟩ := okP_join (x :: r) hne h47 (fun n hm => nameL_no_slash (hn n hm))
    have h11 : okP (joinL (x :: r)) = true := by
      rw [h9]
      unfold rightL
      rw [List.length_append] at h5
      simp only [List.length_cons, List.length_nil, Nat.zero_add] at h5
      simp only [Bool.and_eq_true, decide_eq_true_eq, List.all_eq_true]
      refine ⟨⟨⟨by simp, by simp only [List.length_cons]; omega⟩, hn⟩, by omega⟩
    exact ⟨h11, h10 h11⟩
end Go.Proofs.YtkhnkidggcjfeaaGreatDoor
end
section
namespace Go.Proofs.YtkhnkidggcjfeaaGreatDoor
open Go.RowKit
open Go.ChangeMaps (setBlock)
theorem ret_cell_tmpT {P : Program} {fn : Func} {p u : Tmp} {ty : TypeId} (h : fn.results = #[.cell p ty, .tmp u]) {tmps : Array Value} {w : World} {b : Nat} {cs : List Value} {v : Value} {d : TypeDesc} (hp : tmps.getD p undef = .pointer (some ⟨b, 0, none⟩)) (hu : tmps.getD u undef = v)
    (hr : w.rangeAt b 0 cs) (ht : P.underlying ty = some d) (hd : d.isRow = true) (hi : (P.info? ty).map (·.size) = some cs.length) : (results fn tmps).run P w = .ok (.tuple #[.agg cs.toArray, v]) w := by
  rw [results_cell_tmp h, hp, hu]
  have e : (asAddr (.pointer (some ⟨b, 0, none⟩))).run P w = .ok ⟨b, 0, none⟩ w := rfl
  rw [e]
  simp only [Result.andThen_ok, run_loadVar_mid w b 0 ty cs d hr ht hd hi]
def rP (g : Nat) (xs : List Value) : Rw := ⟨180, 2, .slice (some ⟨g, 0, none⟩) 1 1, 1, xs⟩
def zP : List Value := [.pointer none, .string ⟨#[]⟩]
theorem Own.boxP {W0 : Base} {w : World} {L : List Rw} (h : Own W0 w L) (xs : List Value) (hx : xs.length = 2) (g : Nat) (hg : g = w.heap.size) : Own W0 (w.alloc (.cells xs.toArray 180)) (rP g xs :: L) :=
  h.made_at 180 2 xs.toArray 1 g hg (by simp [hx]) (by unfold maxLen; decide)
theorem Own.setP {W0 : Base} {w : World} {g : Nat} {xs : List Value} {L : List Rw} (h : Own W0 w (rP g xs :: L)) (ys : List Value) (hx : xs.length = ys.length) : Own W0 (w.setCells g 0 ys) (rP g ys :: L) := by
  have h1 := Own.setCells (h := h) ys 0
  rw [splice_all' xs ys hx] at h1
  exact h1
theorem Own.rangeP {W0 : Base} {w : World} {g : Nat} {xs : List Value} {L : List Rw} (h : Own W0 w (rP g xs :: L)) (hx : xs.length = 2) : w.rangeAt g 0 xs := by
  have h1 := Own.range (h := h) 0 2
  rw [List.drop_zero, ← hx, List.take_length] at h1
  exact h1
theorem Own.cellsP {W0 : Base} {w : World} {g : Nat} {a b : Value} {L : List Rw} (h : Own W0 w (rP g [a, b] :: L)) :
    (w.cell? ⟨g, 0, none⟩ = some a ∧ w.cell? ⟨g, 1, none⟩ = some b) ∧ w.frozen? ⟨g, 0, none⟩ = false ∧ w.frozen? ⟨g, 1, none⟩ = false :=
  ⟨⟨Own.cell (h := h) 0 (by decide), Own.cell (h := h) 1 (by decide)⟩, Own.free (h := h) 0, Own.free (h := h) 1⟩
theorem built_place : Tryz.prog.built 180 [] = some zP.toArray := by kernel_rfl
theorem info_place : (Tryz.prog.info? 180).map (·.size) = some 2 := by kernel_rfl
def placeT (T : Tr) (l : List UInt8) : Int × Option (Int × Nd × List UInt8) := match (namesL l).getLast? with
  | none => (14, none)
  | some z => match walkT T 1 (namesL l).dropLast with
    | none => (8, none)
    | some j => match look T.nodes j with
      | none => (8, none)
      | some nd => if nd.k.isSome then (0, some (j, nd, z)) else (11, none)
def placeL : Option (Int × Nd × List UInt8) → List Value
  | none => zP
  | some (_, nd, z) => [.pointer (some ⟨nd.b, 0, none⟩), .string (toB z)]
theorem findT_parent {T : Tr} {l : List UInt8} {ini : List (List UInt8)} {z : List UInt8} (h : namesL l = ini ++ [z]) : findT T (joinL ini) = walkT T 1 ini := by
  obtain ⟨h1, h2⟩ := parent_path h
  unfold findT
  rw [h1, h2]; rfl
theorem placeT_yes (T : Tr) {l : List UInt8} {ini : List (List UInt8)} {z : List UInt8} (h : namesL l = ini ++ [z]) : placeT T l = match standT T (joinL ini) with
    | none => (8, none)
    | some nd => if nd.k.isSome then (0, some ((walkT T 1 ini).getD 0, nd, z)) else (11, none) := by
  unfold placeT standT
  rw [findT_parent h, h]
  simp only [List.getLast?_append, List.getLast?_singleton, Option.some_or, List.dropLast_concat]
  cases walkT T 1 ini with
  | none => rfl
  | some j => rfl
set_option maxHeartbeats 1000000 in
theorem place_any {w : World} {D : Value → List Int → Prop} {t : Nat} {T : Tr} (H : TreeIn (inW w) D t T) (G : Good T) (s : ByteArray) (hs : s.size ≤ maxLen) (hm : Mx w) :
    Calls Tryz.prog 93 #[.pointer (some ⟨t, 0, none⟩), .string s] w fun e w' => e = .returned (.tuple #[.agg (placeL (placeT T s.data.toList).2).toArray, .int .i64 (placeT T s.data.toList).1]) ∧ Below w.heap.size w w' := by
  have hb := built_place
  have hi := info_place
  have hO0 := (Own.start w).boxP zP rfl w.heap.size rfl
  have hA : Below w.heap.size w (w.alloc (.cells zP.toArray 180)) := hO0.below
  have hm1 := hm.later hA
  have H1 := H.later hA
  rcases List.eq_nil_or_concat (namesL s.data.toList) with h0 | ⟨ini, z, h0⟩
  · have hE : placeT T s.data.toList = (14, none) := by unfold placeT; rw [h0]; rfl
    have hp := parent_no s _ hs hm1 h0
    rw [hE]
    dsimp only [placeL]
    clear hE h0 H H1 G
    go_enter Tryz.func93, Tryz.ntmps93
    go_wp2_with fail
    refine hp.mono ?_
    rintro e w2 ⟨rfl, hb2⟩
    have hO2 := hO0.later hb2
    obtain ⟨⟨p0, p1⟩, q0, q1⟩ := Own.cellsP (h := (show Own _ w2 (rP w.heap.size [.pointer none, .string ⟨#[]⟩] :: []) from hO2))
    have HS := Lib.hid (hO2.setP zP rfl)
    clear hO0 hO2 hA hb2
    unfold zP at *
    go_wp2_with fail
    have cr := HS.out.rangeP rfl
    refine bodyPost_ret (v := .tuple #[.agg zP.toArray, .int .i64 14]) (ret_cell_tmpT Tryz.results93 rfl rfl cr Tryz.underlying180 rfl hi) rfl ?_
    exact ⟨rfl, HS.out.below⟩
  · rw [List.concat_eq_append] at h0
    have hp := parent_yes s _ hs hm1 ini z h0
    have hE := placeT_yes T h0
    obtain ⟨h5, h6⟩ := names_bounds s.data.toList
    rw [h0] at h5 h6
    rw [List.length_append, List.length_singleton] at h5
    have hj := join_size ini 12 (fun n hn => (name_len (h6 n (List.mem_append_left _ hn))).2) (by omega) (by omega)
    have hjs : (toB (joinL ini)).size ≤ maxLen := by rw [toB_size]; unfold joinL maxLen; simp only [List.length_cons]; omega
    have hst : ∀ w2, Below (w.alloc (.cells zP.toArray 180)).heap.size (w.alloc (.cells zP.toArray 180)) w2 → Calls Tryz.prog 138 #[.pointer (some ⟨t, 0, none⟩), .string (toB (joinL ini))] w2 fun e w' => e = .returned (ptrOf (standT T (joinL ini))) ∧ Below w2.heap.size w2 w' := fun w2 hb2 => stands_any (H1.later hb2) G (toB (joinL ini)) hjs (hm1.later hb2)
    clear h5 h6 hj hjs h0
    cases hS : standT T (joinL ini) with
    | none =>
      rw [hS] at hE hst
      dsimp only at hE
      rw [hE]
      dsimp only [placeL, ptrOf] at *
      clear hE hS H H1 G
      go_enter Tryz.func93, Tryz.ntmps93
      go_wp2_with fail
      refine hp.mono ?_
      rintro e w2 ⟨rfl, hb2⟩
      have hst2 := hst w2 hb2
      have hO2 := hO0.later hb2
      clear hst hb2 hp
      go_wp2_with fail
      refine hst2.mono ?_
      rintro e w3 ⟨rfl, hb3⟩
      have hO3 := hO2.later hb3
      obtain ⟨⟨p0, p1⟩, q0, q1⟩ := Own.cellsP (h := (show Own _ w3 (rP w.heap.size [.pointer none, .string ⟨#[]⟩] :: []) from hO3))
      have HS := Lib.hid (hO3.setP zP rfl)
      clear hO0 hO2 hO3 hA hb3 hst2
      unfold zP at *
      go_wp2_with fail
      have cr := HS.out.rangeP rfl
      refine bodyPost_ret (v := .tuple #[.agg zP.toArray, .int .i64 8]) (ret_cell_tmpT Tryz.results93 rfl rfl cr Tryz.underlying180 rfl hi) rfl ?_
      exact ⟨rfl, HS.out.below⟩
    | some nd =>
      rw [hS] at hE hst
      dsimp only at hE
      obtain ⟨i, hmem⟩ := stand_mem hS
      have hdir : ∀ w3, Below w.heap.size w w3 → Calls Tryz.prog 96 #[.pointer (some ⟨nd.b, 0, none⟩)] w3 fun e w' => e = .returned (.bool nd.k.isSome) ∧ w3 = w' := fun w3 hb3 => dir_any ((H.later hb3).node _ hmem)
      dsimp only [ptrOf] at hst
      clear hS H H1 G hmem
      generalize (walkT T 1 ini).getD 0 = j at *
      rcases Bool.eq_false_or_eq_true nd.k.isSome with hk | hk
      · rw [hk] at hE hdir
        simp only [Bool.false_eq_true, if_true, if_false] at hE
        rw [hE]
        dsimp only [placeL]
        clear hE hk
        go_enter Tryz.func93, Tryz.ntmps93
        go_wp2_with fail
        refine hp.mono ?_
        rintro e w2 ⟨rfl, hb2⟩
        have hst2 := hst w2 hb2
        have hO2 := hO0.later hb2
        clear hst hb2 hp
        go_wp2_with fail
        refine hst2.mono ?_
        rintro e w3 ⟨rfl, hb3⟩
        have hO3 := hO2.later hb3
        have hd3 := hdir w3 hO3.below
        obtain ⟨⟨p0, p1⟩, q0, q1⟩ := Own.cellsP (h := (show Own _ w3 (rP w.heap.size [.pointer none, .string ⟨#[]⟩] :: []) from hO3))
        have HS := Lib.hid (hO3.setP [.pointer (some ⟨nd.b, 0, none⟩), .string (toB z)] rfl)
        clear hO0 hO2 hO3 hA hb3 hst2 hdir
        unfold zP at *
        go_wp2_with (go_at_call 96; refine hd3.mono ?_; rintro e w' ⟨rfl, rfl⟩)
        have cr := HS.out.rangeP rfl
        refine bodyPost_ret (v := .tuple #[.agg ([.pointer (some ⟨nd.b, 0, none⟩), .string (toB z)] : List Value).toArray, .int .i64 0]) (ret_cell_tmpT Tryz.results93 rfl rfl cr Tryz.underlying180 rfl hi) rfl ?_
        exact ⟨rfl, HS.out.below⟩
      · rw [hk] at hE hdir
        simp only [Bool.false_eq_true, if_true, if_false] at hE
        rw [hE]
        dsimp only [placeL]
        clear hE hk
        go_enter Tryz.func93, Tryz.ntmps93
        go_wp2_with fail
        refine hp.mono ?_
        rintro e w2 ⟨rfl, hb2⟩
        have hst2 := hst w2 hb2
        have hO2 := hO0.later hb2
        clear hst hb2 hp
        go_wp2_with fail
        refine hst2.mono ?_
        rintro e w3 ⟨rfl, hb3⟩
        have hO3 := hO2.later hb3
        have hd3 := hdir w3 hO3.below
        obtain ⟨⟨p0, p1⟩, q0, q1⟩ := Own.cellsP (h := (show Own _ w3 (rP w.heap.size [.pointer none, .string ⟨#[]⟩] :: []) from hO3))
        have HS := Lib.hid (hO3.setP zP rfl)
        clear hO0 hO2 hO3 hA hb3 hst2 hdir
        unfold zP at *
        go_wp2_with (go_at_call 96; refine hd3.mono ?_; rintro e w' ⟨rfl, rfl⟩)
        have cr := HS.out.rangeP rfl
        refine bodyPost_ret (v := .tuple #[.agg (zP : List Value).toArray, .int .i64 11]) (ret_cell_tmpT Tryz.results93 rfl rfl cr Tryz.underlying180 rfl hi) rfl ?_
        exact ⟨rfl, HS.out.below⟩
end Go.Proofs.YtkhnkidggcjfeaaGreatDoor
end
section
namespace Go.Proofs.YtkhnkidggcjfeaaGreatDoor
open Go.RowKit
open Go.ChangeMaps (setBlock)
theorem mapclone_any (b : Nat) (es : Array MapEntry) (clock : Nat) (w : World) (hb : w.heap[b]? = some (.map es clock)) :
    Calls Tryz.prog 58 #[.map (some b)] w fun e w' => e = .returned (.map (some w.heap.size)) ∧ w' = w.alloc (.map es clock) := by
  have hq := fun w => run_eql_map_nil_sl (P := Tryz.prog) w 29 _ _ (some b) Tryz.underlying29
  go_enter Tryz.func58, Tryz.ntmps58
  go_wp2_with fail
  rw [run_callFunc_extern Tryz.func92 (by kernel_rfl) (by kernel_rfl) (by kernel_rfl) (e := Extern.MapsClone.clone) (by kernel_rfl), run_maps_clone_sl w 29 hb]
  simp only [Result.andThen]
  rw [Oper.upon_value]
  go_wp2_with fail
  rw [run_typeAssert_map_sl _ 29 20 _ _ _ Tryz.underlying29]
  simp only [Result.andThen]
  rw [Oper.upon_value]
  go_wp2_with fail
  go_ret
  exact ⟨rfl, rfl⟩
theorem mapclone_nil (w : World) :
    Calls Tryz.prog 58 #[.map none] w fun e w' => e = .returned (.map none) ∧ w = w' := by
  have hq := fun w => run_eql_map_nil_sl (P := Tryz.prog) w 29 _ _ none Tryz.underlying29
  go_enter Tryz.func58, Tryz.ntmps58
  go_wp2_with fail
  go_ret
  exact ⟨rfl, rfl⟩
structure ENd where
  dir : Bool
  kids : List (ByteArray × Int)
  data : List Int
  places : Int
def Nd.er (n : Nd) : ENd := ⟨n.k.isSome, n.kids, n.data, n.places⟩
def erL (l : List (Int × Nd)) : List (Int × ENd) := l.map fun p => (p.1, p.2.er)
def WalksR (w : World) (r : Nat) (T : Tr) (oi o : Obj) (done left : List (Int × Nd)) (wr : World) : Prop :=
  wr.heap[r]? = some oi ∧ w.heap[T.bm]? = some o ∧ IterO KI oi T.bm o (nodesV T) (ndV left) ∧ (done ++ left).Perm T.nodes ∧ Below w.heap.size w wr ∧ w.heap.size ≤ r
theorem WalksR.next {w wr : World} {r : Nat} {T : Tr} {oi o : Obj} {done left : List (Int × Nd)} (h : WalksR w r T oi o done left wr) :
    (left = [] ∧ ∀ ty, (Instr.next (.pointer (some ⟨r, 0, none⟩)) false ty).run Tryz.prog wr = .ok (.tuple #[.bool false]) wr) ∨
    ∃ (l1 l2 : List (Int × Nd)) (p : Int × Nd) (oi' : Obj) (w1 : World), left = l1 ++ p :: l2 ∧ (w1 = wr ∨ w1 = wr.drew) ∧ (∀ ty, (Instr.next (.pointer (some ⟨r, 0, none⟩)) false ty).run Tryz.prog wr = .ok (.tuple #[.bool true, .int .i64 p.1, .pointer (some ⟨p.2.b, 0, none⟩)]) (setBlock w1 r oi')) ∧
      WalksR w r T oi' o (done ++ [p]) (l1 ++ l2) (setBlock w1 r oi') ∧ p ∈ T.nodes ∧
      (∀ u : World, u.heap[r]? = some oi' → u.heap[T.bm]? = some o → (Instr.entry (.pointer (some ⟨r, 0, none⟩))).run Tryz.prog u = .ok (.tuple #[.int .i64 p.1, .pointer (some ⟨p.2.b, 0, none⟩)]) u) := by
  obtain ⟨h1, h2, h3, h4, h5, h6⟩ := h
  have hlt := lt_of_heap h2
  have h2' : wr.heap[T.bm]? = some o := (h5.block _ hlt).trans h2
  rcases h3.next (P := Tryz.prog) 0 h1 h2' with ⟨g1, g2⟩ | ⟨x, y, z, w1, oi', g1, g2, g3, g4, g5⟩
  · left
    have : left = [] := List.map_eq_nil_iff.1 g1
    exact ⟨this, fun ty => g2⟩
  · right
    obtain ⟨l1, p, l2, e1, e2, e3, e4⟩ := ndV_split g1
    have hb1 : Below w.heap.size w w1 := by rcases g2 with rfl | rfl; exact h5; exact h5.drew
    have hlt1 : r < w1.heap.size := by rcases g2 with rfl | rfl <;> exact lt_of_heap h1
    obtain ⟨s1, s2, s3⟩ := setBlock_heap w1 r oi' hlt1
    refine ⟨l1, l2, p, oi', w1, e1, g2, fun ty => by rw [show (Instr.next (.pointer (some ⟨r, 0, none⟩)) false ty) = (Instr.next (.pointer (some ⟨r, 0, none⟩)) false 0) from rfl, g3, e3], ⟨s1, h2, by rw [show ndV (l1 ++ l2) = x ++ z by rw [← e2, ← e4]; simp [ndV]]; exact g4, ?_, below_setBlock hb1 h6 _, h6⟩, ?_, fun u hu hu2 => by rw [g5 u hu hu2, e3]⟩
    · refine List.Perm.trans ?_ h4
      rw [e1]
      simp only [List.append_assoc, List.singleton_append]
      exact (List.perm_middle.symm).append_left done
    · exact h4.subset (by rw [e1]; simp)
theorem WalksR.tree {w wr : World} {r : Nat} {D : Value → List Int → Prop} {t : Nat} {T : Tr} {oi o : Obj} {done left : List (Int × Nd)} (h : WalksR w r T oi o done left wr) (H : TreeIn (inW w) D t T) : TreeIn (inW wr) D t T := H.later h.2.2.2.2.1
theorem WalksR.entry {w wr : World} {r : Nat} {T : Tr} {oi o : Obj} {done left : List (Int × Nd)} (h : WalksR w r T oi o done left wr) : wr.heap[r]? = some oi ∧ wr.heap[T.bm]? = some o := ⟨h.1, (h.2.2.2.2.1.block _ (lt_of_heap h.2.1)).trans h.2.1⟩
theorem WalksR.left_eq {w wr : World} {r : Nat} {T : Tr} {oi o : Obj} {done left : List (Int × Nd)} (h : WalksR w r T oi o done left wr) : leftN wr T.bm r = left.length := by
  obtain ⟨e1, e2⟩ := h.entry
  obtain ⟨es, clock, since, seen, c0, rfl, rfl, _, _, _, _, _, _, h7⟩ := h.2.2.1
  have := congrArg List.length h7
  simp only [leftN, e1, e2]
  simpa [ndV] using this
theorem WalksR.key {w wr : World} {r : Nat} {T : Tr} {oi o : Obj} {done l : List (Int × Nd)} {p : Int × Nd} (h : WalksR w r T oi o (done ++ [p]) l wr) (G : (T.nodes.map (·.1)).Nodup) : p.1 ∉ done.map (·.1) := by
  have h1 := (h.2.2.2.1.map (·.1)).nodup_iff.2 G
  rw [List.append_assoc, List.map_append] at h1
  intro hm
  exact (List.nodup_append.1 h1).2.2 _ hm p.1 (by simp) rfl
structure Part (S : Blocks) (D : Value → List Int → Prop) (c : Nat) (T : Tr) (B : Nat) : Prop where
  at_ : TreeIn (inS S) D c T
  apart : (c :: T.foot).Nodup
  high : ∀ b ∈ c :: T.foot, B ≤ b
theorem put_new {α β : Type} [DecidableEq α] {m : List (α × β)} {a : α} (h : a ∉ m.map (·.1)) (v : β) : put m a v = m ++ [(a, v)] := by
  induction m with
  | nil => rfl
  | cons p r ih =>
    simp only [List.map_cons, List.mem_cons, not_or] at h
    unfold put
    rw [if_neg (fun e => h.1 e.symm), ih h.2]; rfl
theorem foot_put {T : Tr} {i : Int} {n : Nd} (h : i ∉ T.nodes.map (·.1)) : (T.setN i n).foot = T.foot ++ n.foot := by
  unfold Tr.foot Tr.setN
  rw [put_new h, List.flatMap_append]; simp
theorem nodesV_put {T : Tr} {i : Int} {n : Nd} (h : i ∉ T.nodes.map (·.1)) : nodesV (T.setN i n) = put (nodesV T) i (.pointer (some ⟨n.b, 0, none⟩)) := by
  have h2 : i ∉ (nodesV T).map (·.1) := by unfold nodesV; rw [List.map_map]; exact h
  rw [put_new h2]
  unfold nodesV Tr.setN
  rw [put_new h]; simp
theorem Part.add {S S2 : Blocks} {D : Value → List Int → Prop} {c B N : Nat} {T : Tr} (H : Part S D c T B) {i : Int} (hi : i ∉ T.nodes.map (·.1)) {n : Nd} {o : Obj} (ho : MapO KI o (put (nodesV T) i (.pointer (some ⟨n.b, 0, none⟩))))
    (hS : ∀ b x, (b, x) ∈ S → b ≠ T.bm → (b, x) ∈ S2) (hbm : (T.bm, o) ∈ S2) (hN : NodeIn (inS S2) D n) (hlow : ∀ b ∈ c :: T.foot, b < N) (hnew : ∀ b ∈ n.foot, N ≤ b ∧ B ≤ b) (hnd : n.foot.Nodup) : Part S2 D c (T.setN i n) B := by
  have hap := H.apart
  have hcb : c ≠ T.bm := fun e => (List.nodup_cons.1 hap).1 (by rw [e]; exact List.mem_cons_self ..)
  have hnb : ∀ p ∈ T.nodes, ∀ b ∈ p.2.foot, b ≠ T.bm := fun p hp b hb e => (List.nodup_cons.1 (List.nodup_cons.1 hap).2).1 (e ▸ List.mem_flatMap.2 ⟨p, hp, hb⟩)
  refine ⟨⟨hS _ _ H.at_.cells hcb, ⟨o, hbm, by rw [nodesV_put hi]; exact ho⟩, fun p hp => ?_⟩, ?_, ?_⟩
  · unfold Tr.setN at hp
    rw [put_new hi] at hp
    rcases List.mem_append.1 hp with hp | hp
    · exact (H.at_.node p hp).mono (fun b x hb hx => hS _ _ hx (hnb p hp b hb)) (fun _ _ h => h)
    · rw [List.mem_singleton.1 hp]; exact hN
  · rw [foot_put hi, ← List.cons_append]
    refine List.nodup_append.2 ⟨hap, hnd, fun a ha b hb e => ?_⟩
    have h1 := hlow a ha
    have h2 := (hnew b hb).1
    omega
  · intro b hb
    rw [foot_put hi, ← List.cons_append] at hb
    rcases List.mem_append.1 hb with hb | hb
    · exact H.high b hb
    · exact (hnew b hb).2
theorem Part.mono {S S2 : Blocks} {D : Value → List Int → Prop} {c B : Nat} {T : Tr} (H : Part S D c T B) (hS : ∀ b x, b ∈ c :: T.foot → (b, x) ∈ S → (b, x) ∈ S2) : Part S2 D c T B := ⟨H.at_.mono (fun b x hb hx => hS b x hb hx) (fun _ _ h => h), H.apart, H.high⟩
theorem kept_in {h : Nat → Obj → Prop} {D : Value → List Int → Prop} {t : Nat} {T : Tr} (H : TreeIn h D t T) : ∀ b ∈ t :: T.foot, ∃ o, h b o := by
  intro b hb
  rcases List.mem_cons.1 hb with rfl | hb
  · exact ⟨_, H.cells⟩
  · rcases List.mem_cons.1 hb with rfl | hb
    · obtain ⟨o, h1, _⟩ := H.map; exact ⟨o, h1⟩
    · obtain ⟨p, hp, hb⟩ := List.mem_flatMap.1 hb
      have hN := H.node p hp
      rcases List.mem_cons.1 hb with rfl | hb
      · exact ⟨_, hN.cells⟩
      · have : p.2.k = some b := by
          cases hk : p.2.k with
          | none => rw [hk] at hb; simp at hb
          | some k => rw [hk] at hb; simp at hb; rw [hb]
        obtain ⟨o, h1, _⟩ := hN.kid b this
        exact ⟨o, h1⟩
def Added (w0 : World) (S2 : Blocks) (L : List Rw) (D : Value → List Int → Prop) (c B : Nat) (T : Tr) (i : Int) (n : Nd) (b : Nat) (W : World) : Prop :=
  ∃ o S5 n', (Instr.mapUpdate 80 (.map (some T.bm)) (.int .i64 i) (.pointer (some ⟨b, 0, none⟩))).run Tryz.prog W = .ok () (setBlock W T.bm o) ∧ Own ⟨w0, S5⟩ (setBlock W T.bm o) L ∧ Part S5 D c (T.setN i n') B ∧ n'.er = n.er ∧ (∀ b x, (b, x) ∈ S2 → b ≠ T.bm → (b, x) ∈ S5) ∧
    (∀ b ∈ c :: (T.setN i n').foot, b ∈ c :: T.foot ∨ ∀ x, (b, x) ∉ S2)
theorem add_dir {w0 w2 : World} {S2 : Blocks} {L : List Rw} {D : Value → List Int → Prop} {c B : Nat} {T : Tr} (hO : Own ⟨w0, S2⟩ w2 L) (P : Part S2 D c T B) {i : Int} (hi : i ∉ T.nodes.map (·.1)) (hB : B ≤ w2.heap.size) {n : Nd} {k : Nat} (hk : n.k = some k) {es : Array MapEntry} {clock : Nat}
    (hm : MapO KS (.map es clock) (kidsV n.kids)) (hD : D n.dv n.data) (hf : ∃ a c, n.dv = .slice a n.data.length c) :
    Added w0 S2 L D c B T i n (w2.heap.size + 1) ((w2.alloc (.map es clock)).alloc (.cells #[.map (some w2.heap.size), n.dv, .int .i64 n.places] 133)).drew := by
  have h3 := hO.newB (.map es clock)
  have h4 := (h3.newB (.cells #[.map (some w2.heap.size), n.dv, .int .i64 n.places] 133)).drew
  rw [show (w2.alloc (.map es clock)).heap.size = w2.heap.size + 1 by simp] at h4
  obtain ⟨o1, m1, m2⟩ := P.at_.map
  have hlow : ∀ b ∈ c :: T.foot, b < w2.heap.size := fun b hb => by
    obtain ⟨x, hx⟩ := kept_in P.at_ b hb
    exact (hO.atLt hx).2
  have hbm : T.bm < w2.heap.size := hlow _ (List.mem_cons_of_mem _ (List.mem_cons_self ..))
  have m1' := List.mem_cons_of_mem (w2.heap.size + 1, Obj.cells #[.map (some w2.heap.size), n.dv, .int .i64 n.places] 133) (List.mem_cons_of_mem (w2.heap.size, Obj.map es clock) m1)
  obtain ⟨o, hup, hm2⟩ := m2.update kindsI Tryz.underlying80 (h4.at m1') i (.pointer (some ⟨w2.heap.size + 1, 0, none⟩))
  have h5 := h4.setB m1' o
  refine ⟨o, _, ⟨w2.heap.size + 1, some w2.heap.size, n.kids, n.dv, n.data, n.places⟩, hup, h5, P.add hi hm2 (fun b x hb hne => upd_other (List.mem_cons_of_mem _ (List.mem_cons_of_mem _ hb)) hne _) (upd_same m1' o) ?_ hlow ?_ ?_, ?_, fun b x hb hne => upd_other (List.mem_cons_of_mem _ (List.mem_cons_of_mem _ hb)) hne _, ?_⟩
  · refine ⟨upd_other (List.mem_cons_self ..) (by show w2.heap.size + 1 ≠ _; omega) _, fun k2 hk2 => ?_, (fun h => by cases h), hD, hf⟩
    have : w2.heap.size = k2 := by injection hk2
    subst this
    exact ⟨_, upd_other (List.mem_cons_of_mem _ (List.mem_cons_self ..)) (by omega) _, hm⟩
  · intro b hb
    have : b ∈ [w2.heap.size + 1, w2.heap.size] := hb
    simp at this; omega
  · show ([w2.heap.size + 1, w2.heap.size] : List Nat).Nodup
    simp
  · unfold Nd.er; rw [hk]; rfl
  · intro b hb
    rw [foot_put hi, ← List.cons_append] at hb
    rcases List.mem_append.1 hb with hb | hb
    · exact .inl hb
    · right
      intro x hx
      have h1 := (hO.atLt hx).2
      have : b ∈ [w2.heap.size + 1, w2.heap.size] := hb
      simp at this; omega
theorem add_file {w0 w2 : World} {S2 : Blocks} {L : List Rw} {D : Value → List Int → Prop} {c B : Nat} {T : Tr} (hO : Own ⟨w0, S2⟩ w2 L) (P : Part S2 D c T B) {i : Int} (hi : i ∉ T.nodes.map (·.1)) (hB : B ≤ w2.heap.size) {n : Nd} (hk : n.k = none) (hkids : n.kids = [])
    (hD : D n.dv n.data) (hf : ∃ a c, n.dv = .slice a n.data.length c) :
    Added w0 S2 L D c B T i n w2.heap.size (w2.alloc (.cells #[.map none, n.dv, .int .i64 n.places] 133)).drew := by
  have h4 := (hO.newB (.cells #[.map none, n.dv, .int .i64 n.places] 133)).drew
  obtain ⟨o1, m1, m2⟩ := P.at_.map
  have hlow : ∀ b ∈ c :: T.foot, b < w2.heap.size := fun b hb => by
    obtain ⟨x, hx⟩ := kept_in P.at_ b hb
    exact (hO.atLt hx).2
  have hbm : T.bm < w2.heap.size := hlow _ (List.mem_cons_of_mem _ (List.mem_cons_self ..))
  have m1' := List.mem_cons_of_mem (w2.heap.size, Obj.cells #[.map none, n.dv, .int .i64 n.places] 133) m1
  obtain ⟨o, hup, hm2⟩ := m2.update kindsI Tryz.underlying80 (h4.at m1') i (.pointer (some ⟨w2.heap.size, 0, none⟩))
  have h5 := h4.setB m1' o
  refine ⟨o, _, ⟨w2.heap.size, none, n.kids, n.dv, n.data, n.places⟩, hup, h5, P.add hi hm2 (fun b x hb hne => upd_other (List.mem_cons_of_mem _ hb) hne _) (upd_same m1' o) ?_ hlow ?_ ?_, ?_, fun b x hb hne => upd_other (List.mem_cons_of_mem _ hb) hne _, ?_⟩
  · exact ⟨upd_other (List.mem_cons_self ..) (by show w2.heap.size ≠ _; omega) _, (fun k2 hk2 => by cases hk2), (fun _ => hkids), hD, hf⟩
  · intro b hb
    have : b ∈ [w2.heap.size] := hb
    simp at this; omega
  · show ([w2.heap.size] : List Nat).Nodup
    simp
  · unfold Nd.er; rw [hk]
  · intro b hb
    rw [foot_put hi, ← List.cons_append] at hb
    rcases List.mem_append.1 hb with hb | hb
    · exact .inl hb
    · right
      intro x hx
      have h1 := (hO.atLt hx).2
      have : b ∈ [w2.heap.size] := hb
      simp at this; omega
end Go.Proofs.YtkhnkidggcjfeaaGreatDoor
end
section
namespace Go.Proofs.YtkhnkidggcjfeaaGreatDoor
open Go.RowKit
open Go.ChangeMaps (setBlock)
structure Same (T T' : Tr) : Prop where
  quota : T'.quota = T.quota
  next : T'.next = T.next
  nodes : (erL T'.nodes).Perm (erL T.nodes)
theorem er_mem {l : List (Int × Nd)} {p : Int × Nd} (h : p ∈ l) : (p.1, p.2.er) ∈ erL l := List.mem_map.2 ⟨p, h, rfl⟩
theorem er_of {l : List (Int × Nd)} {q : Int × ENd} (h : q ∈ erL l) : ∃ p ∈ l, p.1 = q.1 ∧ p.2.er = q.2 := by
  obtain ⟨p, hp, e⟩ := List.mem_map.1 h
  exact ⟨p, hp, by rw [← e], by rw [← e]⟩
theorem erL_keys (l : List (Int × Nd)) : (erL l).map (·.1) = l.map (·.1) := by unfold erL; rw [List.map_map]; rfl
theorem Same.keys {T T' : Tr} (h : Same T T') : (T'.nodes.map (·.1)).Perm (T.nodes.map (·.1)) := by
  have := h.nodes.map (·.1)
  rwa [erL_keys, erL_keys] at this
theorem Same.look {T T' : Tr} (h : Same T T') (G : Good T) (i : Int) : (look T'.nodes i).map Nd.er = (look T.nodes i).map Nd.er := by
  have hk := h.keys
  have hn : (T'.nodes.map (·.1)).Nodup := hk.nodup_iff.2 G.keys
  cases h1 : Go.Proofs.YtkhnkidggcjfeaaGreatDoor.look T.nodes i with
  | some n =>
    obtain ⟨p, hp, e1, e2⟩ := er_of (h.nodes.symm.subset (er_mem (look_mem h1)))
    have := look_of_mem hn hp
    rw [show p.1 = i from e1] at this
    rw [this]
    exact congrArg some e2
  | none =>
    cases h2 : Go.Proofs.YtkhnkidggcjfeaaGreatDoor.look T'.nodes i with
    | none => rfl
    | some n =>
      obtain ⟨p, hp, e1, e2⟩ := er_of (h.nodes.subset (er_mem (look_mem h2)))
      have := look_of_mem G.keys hp
      rw [show p.1 = i from e1, h1] at this
      cases this
theorem Same.good {T T' : Tr} (h : Same T T') (G : Good T) : Good T' := by
  have hl := fun i => h.look G i
  refine ⟨h.keys.nodup_iff.2 G.keys, ?_, fun p hp q hq => ?_, fun p hp => ?_⟩
  · obtain ⟨n, k, h1, h2⟩ := G.root
    have := hl 1
    rw [h1] at this
    cases h3 : Go.Proofs.YtkhnkidggcjfeaaGreatDoor.look T'.nodes 1 with
    | none => rw [h3] at this; cases this
    | some m =>
      rw [h3] at this
      have h4 : m.er = n.er := by injection this
      have h5 : m.k.isSome = n.k.isSome := congrArg ENd.dir h4
      rw [h2] at h5
      cases hk : m.k with
      | none => rw [hk] at h5; cases h5
      | some k' => exact ⟨m, k', rfl, hk⟩
  · obtain ⟨p0, hp0, e1, e2⟩ := er_of (h.nodes.subset (er_mem hp))
    have hkids : p0.2.kids = p.2.kids := congrArg ENd.kids e2
    obtain ⟨n, hn⟩ := G.kids p0 hp0 q (hkids ▸ hq)
    have := hl q.2
    rw [hn] at this
    cases h3 : Go.Proofs.YtkhnkidggcjfeaaGreatDoor.look T'.nodes q.2 with
    | none => rw [h3] at this; cases this
    | some m => exact ⟨m, rfl⟩
  · obtain ⟨p0, hp0, e1, e2⟩ := er_of (h.nodes.subset (er_mem hp))
    have := G.low p0 hp0
    rw [show p0.1 = p.1 from e1] at this
    rw [h.next]; exact this
theorem Part.tree {S : Blocks} {D : Value → List Int → Prop} {c B : Nat} {T T' : Tr} (H : Part S D c T' B) (h : Same T T') (G : Good T) : Tree S D c T' := ⟨H.at_, H.apart, h.good G⟩
def CloneAt (w0 : World) (S : Blocks) (L : List Rw) (D : Value → List Int → Prop) (T : Tr) (w : World) (e : Ending) (w' : World) : Prop :=
  ∃ c S' T', e = .returned (.pointer (some ⟨c, 0, none⟩)) ∧ Own ⟨w0, S'⟩ w' L ∧ Tree S' D c T' ∧ (∀ b x, (b, x) ∈ S → (b, x) ∈ S') ∧ (∀ b ∈ c :: T'.foot, w.heap.size ≤ b) ∧ Same T T'
def CloneRel (w0 : World) (S : Blocks) (L : List Rw) (D : Value → List Int → Prop) (T : Tr) (w : World) (r c : Nat) (wr : World) : Prop :=
  ∃ oi o done left S' T', WalksR w r T oi o done left wr ∧ Own ⟨w0, S'⟩ wr L ∧ (r, oi) ∈ S' ∧ Part S' D c T' w.heap.size ∧ r ∉ c :: T'.foot ∧ T'.quota = T.quota ∧ T'.next = T.next ∧ T'.bm = w.heap.size ∧ erL T'.nodes = erL done ∧ (∀ b x, (b, x) ∈ S → (b, x) ∈ S')
theorem clone_round {w0 w w2 W4 : World} {S S2 : Blocks} {L : List Rw} {D : Value → List Int → Prop} {T T' : Tr} {r c b : Nat} {oi' o : Obj} {done l : List (Int × Nd)} {p : Int × Nd} (HO : Own ⟨w0, S⟩ w L) (hW' : WalksR w r T oi' o (done ++ [p]) l w2) (hr2 : (r, oi') ∈ S2) (hrn : r ∉ c :: T'.foot)
    (hq : T'.quota = T.quota) (hx : T'.next = T.next) (hbm : T'.bm = w.heap.size) (he : erL T'.nodes = erL done) (hi : p.1 ∉ T'.nodes.map (·.1)) (hsub2 : ∀ b x, (b, x) ∈ S → (b, x) ∈ S2) (hA : Added w0 S2 L D c w.heap.size T' p.1 p.2 b W4) (hBW : Below w.heap.size w W4) :
    ∃ W5, (Instr.mapUpdate 80 (.map (some T'.bm)) (.int .i64 p.1) (.pointer (some ⟨b, 0, none⟩))).run Tryz.prog W4 = .ok () W5 ∧ CloneRel w0 S L D T w r c W5 ∧ leftN W5 T.bm r = l.length := by
  obtain ⟨o5, S5, n', hup, hO5, hP5, hn, hk5, hf5⟩ := hA
  have hrb : r ≠ T'.bm := fun e => hrn (by rw [e]; exact List.mem_cons_of_mem _ (List.mem_cons_self ..))
  have hr5 := hk5 _ _ hr2 hrb
  have hW5 : WalksR w r T oi' o (done ++ [p]) l (setBlock W4 T'.bm o5) := ⟨hO5.at hr5, hW'.2.1, hW'.2.2.1, hW'.2.2.2.1, below_setBlock hBW (by omega) _, hW'.2.2.2.2.2⟩
  refine ⟨_, hup, ⟨oi', o, _, _, S5, T'.setN p.1 n', hW5, hO5, hr5, hP5, fun hm => ?_, hq, hx, hbm, ?_, fun b x hb => hk5 b x (hsub2 b x hb) fun e => ?_⟩, hW5.left_eq⟩
  · rcases hf5 r hm with h1 | h1
    · exact hrn h1
    · exact h1 _ hr2
  · unfold Tr.setN
    rw [put_new hi]
    unfold erL at he ⊢
    rw [List.map_append, List.map_append, he]
    simp only [List.map_cons, List.map_nil]
    rw [hn]
  · have := (HO.atLt hb).2
    omega
set_option maxHeartbeats 1000000 in
theorem clone_t {w0 w : World} {S : Blocks} {L : List Rw} {D : Value → List Int → Prop} {t : Nat} {T : Tr} (hO : Own ⟨w0, S⟩ w L) (H : Tree S D t T) :
    Calls Tryz.prog 28 #[.pointer (some ⟨t, 0, none⟩)] w (CloneAt w0 S L D T w) := by
  obtain ⟨c0, c1, c2⟩ := (H.at_.inWorld hO).at0
  obtain ⟨a0, a1, a2⟩ := (H.at_.inWorld (hO.alloc (.map #[] 0)).drew).at0
  have hmk : ∀ w, (Instr.makeMap 80 none).run Tryz.prog w = .ok (.map (some w.heap.size)) (w.alloc (.map #[] 0)) := fun w => rfl
  have hO1 := hO.newB (.map #[] 0)
  have hO2 := (hO1.newB (.cells #[.int .i64 T.quota, .int .i64 T.next, .map (some w.heap.size)] 82)).drew
  have es : (w.alloc (.map #[] 0)).heap.size = w.heap.size + 1 := by simp
  rw [es] at hO2
  have hP : Part ((w.heap.size + 1, .cells #[.int .i64 T.quota, .int .i64 T.next, .map (some w.heap.size)] 82) :: (w.heap.size, .map #[] 0) :: S) D (w.heap.size + 1) ⟨w.heap.size, T.quota, T.next, []⟩ w.heap.size :=
    ⟨⟨List.mem_cons_self .., ⟨_, List.mem_cons_of_mem _ (List.mem_cons_self ..), MapO.empty KI⟩, fun p hp => by cases hp⟩, by show ([w.heap.size + 1, w.heap.size] : List Nat).Nodup; simp, fun b hb => by
      have : b ∈ [w.heap.size + 1, w.heap.size] := hb
      simp at this; omega⟩
  obtain ⟨wa, hwa⟩ : ∃ wa, wa = ((w.alloc (.map #[] 0)).alloc (.cells #[.int .i64 T.quota, .int .i64 T.next, .map (some w.heap.size)] 82)).drew := ⟨_, rfl⟩
  have hBa : Below w.heap.size w wa := by
    rw [hwa]
    exact (((Below.refl _ w).alloc (Nat.le_refl _) _).alloc (by simp) _).drew
  rw [← hwa] at hO2
  have hsa : wa.heap.size = w.heap.size + 2 := by rw [hwa]; show ((w.alloc _).alloc _).heap.size = _; simp
  have HA := H.at_.inWorld (hO2.forget (S' := S) fun m hm => List.mem_cons_of_mem _ (List.mem_cons_of_mem _ hm))
  obtain ⟨_, _, b2⟩ := HA.at0
  obtain ⟨oi, o, hrun, hW⟩ := Walks.start HA
  have hWR : WalksR w wa.heap.size T oi o [] T.nodes (wa.alloc oi) := by
    obtain ⟨o2, h1, _⟩ := (H.at_.inWorld hO).map
    have h2 : w.heap[T.bm]? = some o := ((hBa.block _ (lt_of_heap h1)).symm).trans hW.2.1
    exact ⟨hW.1, h2, hW.2.2.1, hW.2.2.2.1, hBa.alloc hBa.size _, hBa.size⟩
  have HR := Lib.hid (show CloneRel w0 S L D T w wa.heap.size (w.heap.size + 1) (wa.alloc oi) from
    ⟨oi, o, [], T.nodes, _, _, hWR, hO2.newB oi, List.mem_cons_self .., hP.mono (fun b x _ hx => List.mem_cons_of_mem _ hx), by
      rw [hsa]
      show w.heap.size + 2 ∉ [w.heap.size + 1, w.heap.size]
      simp, rfl, rfl, rfl, rfl, fun b x hb => List.mem_cons_of_mem _ (List.mem_cons_of_mem _ (List.mem_cons_of_mem _ hb))⟩)
  have HH := Lib.hid (H.at_.inWorld hO)
  have HT := Lib.hid H
  have HO := Lib.hid hO
  clear hO hO1 hO2 hP HA hW H es hsa hBa hWR
  generalize wa.heap.size = r at *
  go_enter Tryz.func28, Tryz.ntmps28
  go_wp2_with fail
  go_region
  rw [← hwa]
  clear hwa a0 a1 a2 c0 c1 c2
  go_wp2_with fail
  go_loopw [] (fun wr => CloneRel w0 S L D T w r (w.heap.size + 1) wr) (fun wr => leftN wr T.bm r)
  case atStart => exact HR.out
  case round =>
    obtain ⟨oi2, o2, done, left, S', T', hW, hO, hr, hP, hrn, hq, hx, hbm, he, hsub⟩ := hrel
    have hle := hW.left_eq
    have hperm := hW.2.2.2.1
    rcases hW.next with ⟨rfl, hn⟩ | ⟨l1, l2, p, oi', w1, rfl, hw1, hn, hW', hp, hen⟩
    · have hS : Same T T' := ⟨hq, hx, by rw [he]; simp only [List.append_nil] at hperm; exact hperm.map _⟩
      have HC := Lib.hid (show CloneAt w0 S L D T w (.returned (.pointer (some ⟨w.heap.size + 1, 0, none⟩))) wr from ⟨_, S', T', rfl, hO, hP.tree hS HT.out.good, hsub, hP.high, hS⟩)
      clear hW hle hperm hO hr hP hrn hq hx he hsub hS
      go_wp2_with fail
      go_ret
      exact HC.out
    · have hO1 : Own ⟨w0, S'⟩ w1 L := by rcases hw1 with rfl | rfl; exact hO; exact hO.drew
      have hO2 := hO1.setB hr oi'
      have hP2 : Part (upd S' r oi') D (w.heap.size + 1) T' w.heap.size := hP.mono (fun b x hb hx => upd_other (b := r) hx (fun e => hrn (e ▸ hb)) oi')
      have hr2 := upd_same hr oi'
      have hsub2 : ∀ b x, (b, x) ∈ S → (b, x) ∈ upd S' r oi' := fun b x hb => upd_other (hsub b x hb) (fun e => by
        have h1 := (HO.out.atLt hb).2
        have h2 := hW'.2.2.2.2.2
        omega) _
      have hNw := (hW'.tree HH.out).node p hp
      have hNs := HT.out.at_.node p hp
      obtain ⟨e1, e2⟩ := hW'.entry
      have hent := hen _ e1 e2
      have hi : p.1 ∉ T'.nodes.map (·.1) := by
        have h1 := congrArg (List.map (·.1)) he
        rw [erL_keys, erL_keys] at h1
        rw [h1]
        exact hW'.key HT.out.good.keys
      have hlen : leftN wr T.bm r = (l1 ++ l2).length + 1 := by rw [hle]; simp; omega
      have hB2 := hW'.2.2.2.2.1
      generalize hw2 : setBlock w1 r oi' = w2 at *
      obtain ⟨fa, fc, hf⟩ := hNw.form
      obtain ⟨d0, d1, d2⟩ := hNw.at0
      rw [hf] at d1
      obtain ⟨_, _, q2⟩ := (hP2.at_.inWorld hO2).at0
      have hA : ∀ (wy : World) (o : Obj), Below w2.heap.size w2 wy → Below w2.heap.size w2 (wy.alloc o) := fun wy o h => h.alloc h.size _
      have HO2 := Lib.hid hO2
      have HP2 := Lib.hid hP2
      have hS : ∀ w', Below w2.heap.size w2 w' → w'.cell? ⟨w.heap.size + 1, 2, none⟩ = some (.map (some T'.bm)) ∧ w'.cell? ⟨p.2.b, 0, none⟩ = some (.map p.2.k) ∧ w'.cell? ⟨p.2.b, 1, none⟩ = some (.slice fa p.2.data.length fc) ∧ w'.cell? ⟨p.2.b, 2, none⟩ = some (.int .i64 p.2.places) := fun w' hb => by
        have hN5 : NodeIn (inW w') D p.2 := hNw.mono (fun b o _ ho => (hb.block _ (lt_of_heap ho)).trans ho) (fun _ _ h => h)
        obtain ⟨g0, g1, g2⟩ := hN5.at0
        rw [hf] at g1
        exact ⟨((HP2.out.at_.inWorld HO2.out).later hb).at0.2.2, g0, g1, g2⟩
      cases hk : p.2.k with
      | some k =>
        rw [hk] at d0
        simp only [hk] at hS
        obtain ⟨o5, hk1, hk2⟩ := hNw.kid k hk
        obtain ⟨es, clock, rfl, hk3⟩ := id hk2
        have hcl := mapclone_any k es clock w2.drew hk1
        obtain ⟨W5, hup, hr5, hl5⟩ := clone_round (c := w.heap.size + 1) HO.out hW' hr2 hrn hq hx hbm he hi hsub2 (add_dir HO2.out HP2.out hi hB2.size hk hk2 hNs.dat hNs.form) (((hB2.alloc hB2.size _).alloc (by simp; have := hB2.size; omega) _).drew)
        rw [hf] at hup
        have HR5 := Lib.hid hr5
        have hS5 : W5.cell? ⟨w.heap.size + 1, 2, none⟩ = some (.map (some T'.bm)) ∧ W5.cell? ⟨p.2.b, 0, none⟩ = some (.map (some k)) ∧ W5.cell? ⟨p.2.b, 1, none⟩ = some (.slice fa p.2.data.length fc) ∧ W5.cell? ⟨p.2.b, 2, none⟩ = some (.int .i64 p.2.places) := by
          obtain ⟨_, _, _, _, S7, T7, x1, x2, _, x3, _, _, _, x4, _⟩ := hr5
          obtain ⟨g0, g1, g2⟩ := ((x1.tree HH.out).node p hp).at0
          rw [hf] at g1
          rw [hk] at g0
          have := (x3.at_.inWorld x2).at0.2.2
          rw [x4.trans hbm.symm] at this
          exact ⟨this, g0, g1, g2⟩
        have HL := Lib.hid (show leftN W5 T.bm r < leftN wr T.bm r by rw [hl5, hlen]; omega)
        clear hO hO1 hO2 hP hP2 hsub hW hW' hNw hNs hen hk3 hk2 hperm hle hr hrn hr2 hsub2 hi e1 e2 hr5 hB2 hl5 hbm hq hx he hlen hk1
        go_wp2_with fail
        go_region_held3 (fun w' : World => w'.cell? ⟨w.heap.size + 1, 2, none⟩ = some (.map (some T'.bm)) ∧ w'.cell? ⟨p.2.b, 0, none⟩ = some (.map (some k)) ∧ w'.cell? ⟨p.2.b, 1, none⟩ = some (.slice fa p.2.data.length fc) ∧ w'.cell? ⟨p.2.b, 2, none⟩ = some (.int .i64 p.2.places)) (first | exact hS5 | exact hS _ (Below.refl _ _) | exact hS _ (Below.refl _ w2).drew | exact hS _ (hA _ _ (Below.refl w2.heap.size w2).drew) | exact hS _ (hA _ _ (hA _ _ (Below.refl w2.heap.size w2).drew))) (first | (go_at_call 58; refine hcl.mono ?_; rintro e w3 ⟨rfl, rfl⟩))
        all_goals go_wp2_with fail
        all_goals go_roundw
        all_goals first | exact HR5.out | exact HL.out
      | none =>
        rw [hk] at d0
        simp only [hk] at hS
        have hcl := mapclone_nil w2.drew
        obtain ⟨W5, hup, hr5, hl5⟩ := clone_round (c := w.heap.size + 1) HO.out hW' hr2 hrn hq hx hbm he hi hsub2 (add_file HO2.out HP2.out hi hB2.size hk (hNs.file hk) hNs.dat hNs.form) ((hB2.alloc hB2.size _).drew)
        rw [hf] at hup
        have HR5 := Lib.hid hr5
        have hS5 : W5.cell? ⟨w.heap.size + 1, 2, none⟩ = some (.map (some T'.bm)) ∧ W5.cell? ⟨p.2.b, 0, none⟩ = some (.map none) ∧ W5.cell? ⟨p.2.b, 1, none⟩ = some (.slice fa p.2.data.length fc) ∧ W5.cell? ⟨p.2.b, 2, none⟩ = some (.int .i64 p.2.places) := by
          obtain ⟨_, _, _, _, S7, T7, x1, x2, _, x3, _, _, _, x4, _⟩ := hr5
          obtain ⟨g0, g1, g2⟩ := ((x1.tree HH.out).node p hp).at0
          rw [hf] at g1
          rw [hk] at g0
          have := (x3.at_.inWorld x2).at0.2.2
          rw [x4.trans hbm.symm] at this
          exact ⟨this, g0, g1, g2⟩
        have HL := Lib.hid (show leftN W5 T.bm r < leftN wr T.bm r by rw [hl5, hlen]; omega)
        clear hO hO1 hO2 hP hP2 hsub hW hW' hNw hNs hen hperm hle hr hrn hr2 hsub2 hi e1 e2 hr5 hB2 hl5 hbm hq hx he hlen
        go_wp2_with fail
        go_region_held3 (fun w' : World => w'.cell? ⟨w.heap.size + 1, 2, none⟩ = some (.map (some T'.bm)) ∧ w'.cell? ⟨p.2.b, 0, none⟩ = some (.map none) ∧ w'.cell? ⟨p.2.b, 1, none⟩ = some (.slice fa p.2.data.length fc) ∧ w'.cell? ⟨p.2.b, 2, none⟩ = some (.int .i64 p.2.places)) (first | exact hS5 | exact hS _ (Below.refl _ _) | exact hS _ (Below.refl _ w2).drew | exact hS _ (hA _ _ (Below.refl w2.heap.size w2).drew)) (first | (go_at_call 58; refine hcl.mono ?_; rintro e w3 ⟨rfl, rfl⟩))
        all_goals go_wp2_with fail
        all_goals go_roundw
        all_goals first | exact HR5.out | exact HL.out
end Go.Proofs.YtkhnkidggcjfeaaGreatDoor
end
section
namespace Go.Proofs.YtkhnkidggcjfeaaGreatDoor
open Go.RowKit
open Go.ChangeMaps (setBlock)
theorem Tree.mono {S S2 : Blocks} {D D2 : Value → List Int → Prop} {t : Nat} {T : Tr} (H : Tree S D t T) (hS : ∀ b x, b ∈ t :: T.foot → (b, x) ∈ S → (b, x) ∈ S2) (hD : ∀ v zs, D v zs → D2 v zs) : Tree S2 D2 t T :=
  ⟨H.at_.mono (fun b x hb hx => hS b x hb hx) hD, H.apart, H.good⟩
theorem Tree.setNext {S : Blocks} {D : Value → List Int → Prop} {t : Nat} {T : Tr} (H : Tree S D t T) (m : Int) (hm : T.next ≤ m) : Tree (upd S t (.cells (treeCells { T with next := m }) 82)) D t { T with next := m } := by
  have ht : t ∉ T.foot := (List.nodup_cons.1 H.apart).1
  obtain ⟨o, h1, h2⟩ := H.at_.map
  refine ⟨⟨upd_same H.at_.cells _, ⟨o, upd_other (b := t) h1 (fun e => ht (e ▸ List.mem_cons_self ..)) _, h2⟩, fun p hp => ?_⟩, H.apart, ⟨H.good.keys, H.good.root, H.good.kids, fun p hp => ?_⟩⟩
  · exact (H.at_.node p hp).mono (fun b x hb hx => upd_other (b := t) hx (fun e => ht (e ▸ foot_mem hp hb)) _) (fun _ _ h => h)
  · have := H.good.low p hp
    exact ⟨this.1, this.2.imp id fun h => Int.lt_of_lt_of_le h hm⟩
theorem Tree.addN {S S2 : Blocks} {D : Value → List Int → Prop} {t N : Nat} {T : Tr} (H : Tree S D t T) {i : Int} (hi : look T.nodes i = none) (hi1 : 1 ≤ i) (hi2 : i < T.next) {n : Nd} {o : Obj} (ho : MapO KI o (put (nodesV T) i (.pointer (some ⟨n.b, 0, none⟩))))
    (hS : ∀ b x, (b, x) ∈ S → b ≠ T.bm → (b, x) ∈ S2) (hbm : (T.bm, o) ∈ S2) (hN : NodeIn (inS S2) D n) (hlow : ∀ b ∈ t :: T.foot, b < N) (hnew : ∀ b ∈ n.foot, N ≤ b) (hnd : n.foot.Nodup) (hkids : n.kids = []) : Tree S2 D t (T.setN i n) := by
  have hk : i ∉ T.nodes.map (·.1) := fun hm => by
    obtain ⟨v, hv⟩ := look_some_of_key hm
    rw [hi] at hv; cases hv
  have hP := Part.add (B := 0) ⟨H.at_, H.apart, fun b _ => Nat.zero_le b⟩ hk ho hS hbm hN hlow (fun b hb => ⟨hnew b hb, Nat.zero_le b⟩) hnd
  have hl : ∀ j m, look T.nodes j = some m → ∃ m', look (T.setN i n).nodes j = some m' := fun j m hj => by
    unfold Tr.setN; rw [look_put]
    split
    · exact ⟨_, rfl⟩
    · exact ⟨m, hj⟩
  have hmem : ∀ p ∈ (T.setN i n).nodes, p ∈ T.nodes ∨ p = (i, n) := fun p hp => by
    unfold Tr.setN at hp; rw [put_new hk] at hp
    rcases List.mem_append.1 hp with h | h
    · exact .inl h
    · exact .inr (List.mem_singleton.1 h)
  refine ⟨hP.at_, hP.apart, ⟨?_, ?_, fun p hp q hq => ?_, fun p hp => ?_⟩⟩
  · unfold Tr.setN; rw [put_new hk, List.map_append]
    exact List.nodup_append.2 ⟨H.good.keys, by simp, fun a ha b hb e => by simp at hb; subst hb; exact hk (e ▸ ha)⟩
  · obtain ⟨r, k, h3, h4⟩ := H.good.root
    have hne : (1 : Int) ≠ i := fun e => by rw [← e, h3] at hi; cases hi
    refine ⟨r, k, ?_, h4⟩
    unfold Tr.setN; rw [look_put, if_neg hne]; exact h3
  · rcases hmem p hp with h | rfl
    · obtain ⟨m, hm⟩ := H.good.kids p h q hq
      exact hl _ _ hm
    · have hq' : q ∈ n.kids := hq
      rw [hkids] at hq'; cases hq'
  · rcases hmem p hp with h | rfl
    · exact H.good.low p h
    · exact ⟨hi1, .inr hi2⟩
theorem fresh_none {T : Tr} (G : Good T) (h2 : 2 ≤ T.next) : look T.nodes T.next = none := by
  cases h : look T.nodes T.next with
  | none => rfl
  | some n => rcases (G.low _ (look_mem h)).2 with h3 | h3
              · have h3 : T.next = 1 := h3; omega
              · exact absurd h3 (Int.lt_irrefl _)
abbrev opL (kind : Int) (p q : ByteArray) (v : Value) : List Value := [.int .i64 kind, .string p, .string q, v]
def mkdirT (T : Tr) (j : Int) (nd : Nd) (name : ByteArray) (n : Nd) : Tr := (({ T with next := T.next + 1 } : Tr).setN T.next n).setN j { nd with kids := put nd.kids name T.next }
def DoL (w0 : World) (S : Blocks) (L : List Rw) (t : Nat) (T : Tr) (w : World) (R : Tr → Prop) (r : Value) (e : Ending) (w' : World) : Prop :=
  ∃ S' L' T', e = .returned r ∧ Own ⟨w0, S'⟩ w' L' ∧ (∀ x ∈ L, x ∈ L') ∧ Tree S' (Pc L') t T' ∧ Frame S S' (t :: T.foot) (t :: T'.foot) w.heap.size ∧ R T'
set_option maxHeartbeats 2000000 in
theorem growDir_any {w0 w : World} {S : Blocks} {L : List Rw} {t : Nat} {T : Tr} (hO : Own ⟨w0, S⟩ w L) (H : Tree S (Pc L) t T) {j : Int} {nd : Nd} {k : Nat} (hj : look T.nodes j = some nd) (hk : nd.k = some k) (name : ByteArray)
    (p q : ByteArray) (v : Value) (hv : ∃ a n c, v = .slice a n c) (hn1 : 2 ≤ T.next) (hn2 : T.next ≤ 1000000000) :
    Calls Tryz.prog 94 #[.pointer (some ⟨t, 0, none⟩), .agg #[.pointer (some ⟨nd.b, 0, none⟩), .string name], .agg (opL 0 p q v).toArray] w
      (DoL w0 S L t T w (fun T' => ∃ n : Nd, n.er = ⟨true, [], [], 0⟩ ∧ T' = mkdirT T j nd name n) (.tuple #[])) := by
  obtain ⟨va, vn, vc, rfl⟩ := hv
  have hO2 := (hO.newB (.cells #[.pointer (some ⟨nd.b, 0, none⟩), .string name] 180)).newB (.cells #[.int .i64 0, .string p, .string q, .slice va vn vc] 40)
  rw [show (w.alloc (.cells #[.pointer (some ⟨nd.b, 0, none⟩), .string name] 180)).heap.size = w.heap.size + 1 by simp] at hO2
  obtain ⟨w2, hw2⟩ : ∃ w2, w2 = (w.alloc (.cells #[.pointer (some ⟨nd.b, 0, none⟩), .string name] 180)).alloc (.cells #[.int .i64 0, .string p, .string q, .slice va vn vc] 40) := ⟨_, rfl⟩
  rw [← hw2] at hO2
  have hsz2 : w2.heap.size = w.heap.size + 2 := by rw [hw2]; simp
  have hlow : ∀ b ∈ t :: T.foot, b < w.heap.size := fun b hb => by
    obtain ⟨x, hx⟩ := kept_in H.at_ b hb
    exact (hO.atLt hx).2
  have H2 := H.mono (D2 := Pc L) (S2 := (w.heap.size + 1, .cells #[.int .i64 0, .string p, .string q, .slice va vn vc] 40) :: (w.heap.size, .cells #[.pointer (some ⟨nd.b, 0, none⟩), .string name] 180) :: S) (fun b x _ hx => List.mem_cons_of_mem _ (List.mem_cons_of_mem _ hx)) (fun _ _ h => h)
  have ht := hlow t (List.mem_cons_self ..)
  -- the next number
  have c1 : w2.cell? ⟨t, 1, none⟩ = some (.int .i64 T.next) := (H2.at_.inWorld hO2).at0.2.1
  have fz1 : w2.frozen? ⟨t, 1, none⟩ = false := free_at (hO2.at H2.at_.cells) 1
  have k0 : w2.cell? ⟨w.heap.size + 1, 0, none⟩ = some (.int .i64 0) := by rw [hO2.cellB (List.mem_cons_self ..)]; rfl
  have hO3 := hO2.storeB H2.at_.cells 1 (.int .i64 (T.next + 1))
  have H3 := H2.setNext (T.next + 1) (by omega)
  have m0 : (w.heap.size + 1, Obj.cells #[.int .i64 0, .string p, .string q, .slice va vn vc] 40) ∈ upd ((w.heap.size + 1, .cells #[.int .i64 0, .string p, .string q, .slice va vn vc] 40) :: (w.heap.size, .cells #[.pointer (some ⟨nd.b, 0, none⟩), .string name] 180) :: S) t (.cells (treeCells { T with next := T.next + 1 }) 82) := upd_other (List.mem_cons_self ..) (by omega) _
  have m1 : (w.heap.size, Obj.cells #[.pointer (some ⟨nd.b, 0, none⟩), .string name] 180) ∈ upd ((w.heap.size + 1, .cells #[.int .i64 0, .string p, .string q, .slice va vn vc] 40) :: (w.heap.size, .cells #[.pointer (some ⟨nd.b, 0, none⟩), .string name] 180) :: S) t (.cells (treeCells { T with next := T.next + 1 }) 82) := upd_other (List.mem_cons_of_mem _ (List.mem_cons_self ..)) (by omega) _
  have hkeep3 : ∀ b x, (b, x) ∈ S → b ∉ t :: T.foot → (b, x) ∈ upd ((w.heap.size + 1, .cells #[.int .i64 0, .string p, .string q, .slice va vn vc] 40) :: (w.heap.size, .cells #[.pointer (some ⟨nd.b, 0, none⟩), .string name] 180) :: S) t (.cells (treeCells { T with next := T.next + 1 }) 82) := fun b x hb hnb => upd_other (List.mem_cons_of_mem _ (List.mem_cons_of_mem _ hb)) (fun e => hnb (e ▸ List.mem_cons_self ..)) _
  obtain ⟨w3, hw3⟩ : ∃ w3, w3 = w2.setCell ⟨t, 1, none⟩ (.int .i64 (T.next + 1)) := ⟨_, rfl⟩
  change Own ⟨w0, upd _ t (.cells (treeCells { T with next := T.next + 1 }) 82)⟩ _ L at hO3
  rw [← hw3] at hO3
  have hsz3 : w3.heap.size = w.heap.size + 2 := by rw [hw3, ← hsz2]; simp
  generalize upd ((w.heap.size + 1, Obj.cells #[.int .i64 0, .string p, .string q, .slice va vn vc] 40) :: (w.heap.size, Obj.cells #[.pointer (some ⟨nd.b, 0, none⟩), .string name] 180) :: S) t (.cells (treeCells { T with next := T.next + 1 }) 82) = S3 at *
  -- the new directory
  have hO4 := ((hO3.drew.newB (.map #[] 0)).newB (.cells #[.map (some w3.heap.size), .slice none 0 0, .int .i64 0] 133))
  rw [show (w3.drew.alloc (.map #[] 0)).heap.size = w3.heap.size + 1 by simp] at hO4
  have hnd := newDir_any w3.drew
  obtain ⟨w4, hw4⟩ : ∃ w4, w4 = (w3.drew.alloc (.map #[] 0)).alloc (.cells #[.map (some w3.heap.size), .slice none 0 0, .int .i64 0] 133) := ⟨_, rfl⟩
  change Calls Tryz.prog 127 #[] w3.drew (fun e w' => e = .returned (.pointer (some ⟨w3.heap.size + 1, 0, none⟩)) ∧ w' = (w3.drew.alloc (.map #[] 0)).alloc (.cells #[.map (some w3.heap.size), .slice none 0 0, .int .i64 0] 133)) at hnd
  rw [← hw4] at hnd
  change Own ⟨w0, (w3.heap.size + 1, _) :: (w3.heap.size, Obj.map #[] 0) :: S3⟩ ((w3.drew.alloc (.map #[] 0)).alloc (.cells #[.map (some w3.heap.size), .slice none 0 0, .int .i64 0] 133)) L at hO4
  rw [← hw4] at hO4
  rw [hsz3] at hO4 hnd
  -- it stands in the map of nodes
  obtain ⟨o1, x1, x2⟩ := H3.at_.map
  have x1' := List.mem_cons_of_mem (w.heap.size + 2 + 1, Obj.cells #[.map (some (w.heap.size + 2)), .slice none 0 0, .int .i64 0] 133) (List.mem_cons_of_mem (w.heap.size + 2, Obj.map #[] 0) x1)
  obtain ⟨o2, hup1, x3⟩ := x2.update kindsI Tryz.underlying80 (hO4.at x1') T.next (.pointer (some ⟨w.heap.size + 2 + 1, 0, none⟩))
  have hO5 := hO4.setB x1' o2
  have hbmlt : T.bm < w.heap.size := hlow _ (List.mem_cons_of_mem _ (List.mem_cons_self ..))
  have hbm3 : ({ T with next := T.next + 1 } : Tr).bm = T.bm := rfl
  have hkeep5 : ∀ b x, (b, x) ∈ S3 → b ≠ T.bm → (b, x) ∈ upd ((w.heap.size + 2 + 1, Obj.cells #[.map (some (w.heap.size + 2)), .slice none 0 0, .int .i64 0] 133) :: (w.heap.size + 2, Obj.map #[] 0) :: S3) T.bm o2 := fun b x hb hne => upd_other (List.mem_cons_of_mem _ (List.mem_cons_of_mem _ hb)) hne _
  have H5 := H3.addN (i := T.next) (n := newNd (w.heap.size + 2)) (N := w.heap.size + 2) (fresh_none H.good hn1) (by show (1 : Int) ≤ T.next; omega) (by show T.next < T.next + 1; omega) x3 hkeep5 (upd_same x1' o2) ⟨upd_other (List.mem_cons_self ..) (by show w.heap.size + 2 + 1 ≠ T.bm; omega) _, fun k2 hk2 => by
      have hk3 : w.heap.size + 2 = k2 := by injection hk2
      subst hk3
      exact ⟨.map #[] 0, upd_other (List.mem_cons_of_mem _ (List.mem_cons_self ..)) (by omega) _, MapO.empty KS⟩, (fun h => by cases h), Pc.nil L, ⟨none, 0, rfl⟩⟩
    (fun b hb => by have := hlow b hb; omega) (fun b hb => by
      have : b ∈ [w.heap.size + 2 + 1, w.heap.size + 2] := hb
      simp at this; omega) (by show ([w.heap.size + 2 + 1, w.heap.size + 2] : List Nat).Nodup; simp) rfl
  obtain ⟨w5, hw5⟩ : ∃ w5, w5 = setBlock w4 T.bm o2 := ⟨_, rfl⟩
  rw [← hw5] at hO5 hup1
  have m1' := hkeep5 _ _ m1 (by omega)
  have hkeepA : ∀ b x, (b, x) ∈ S → b ∉ t :: T.foot → (b, x) ∈ upd ((w.heap.size + 2 + 1, Obj.cells #[.map (some (w.heap.size + 2)), .slice none 0 0, .int .i64 0] 133) :: (w.heap.size + 2, Obj.map #[] 0) :: S3) T.bm o2 := fun b x hb hnb => hkeep5 b x (hkeep3 b x hb hnb) (fun e => hnb (e ▸ List.mem_cons_of_mem _ (List.mem_cons_self ..)))
  generalize upd ((w.heap.size + 2 + 1, Obj.cells #[.map (some (w.heap.size + 2)), .slice none 0 0, .int .i64 0] 133) :: (w.heap.size + 2, Obj.map #[] 0) :: S3) T.bm o2 = S5 at *
  have hO6 := hO5.drew
  -- and at its name
  have hne : j ≠ T.next := fun e => by have := (H.good.low _ (look_mem hj)).2; simp at this; omega
  have hj5 : look (({ T with next := T.next + 1 } : Tr).setN T.next (newNd (w.heap.size + 2))).nodes j = some nd := by unfold Tr.setN; rw [look_put, if_neg hne]; exact hj
  have hN5 := H5.at_.node _ (look_mem hj5)
  obtain ⟨o3, y1, y2⟩ := hN5.kid k hk
  obtain ⟨o4, hup2, y3⟩ := y2.update (w := w5.drew) kindsS Tryz.underlying29 (hO6.at y1) name (.int .i64 T.next)
  rw [put_kidsV] at y3
  have hO7 := hO6.setB y1 o4
  have H7 := H5.setKids hj5 hk y3 (fun q hq => by
    rcases mem_putk hq with rfl | hq
    · exact ⟨newNd (w.heap.size + 2), by unfold Tr.setN; rw [look_put, if_pos rfl]⟩
    · exact H5.good.kids _ (look_mem hj5) q hq)
  have hfr : Frame S (upd S5 k o4) (t :: T.foot) (t :: (mkdirT T j nd name (newNd (w.heap.size + 2))).foot) w.heap.size := by
    have hnk : T.next ∉ T.nodes.map (·.1) := fun hm => by
      obtain ⟨v, hv⟩ := look_some_of_key hm
      rw [fresh_none H.good hn1] at hv; cases hv
    have e : (mkdirT T j nd name (newNd (w.heap.size + 2))).foot = T.foot ++ [w.heap.size + 2 + 1, w.heap.size + 2] :=
      (setN_foot (n' := { nd with kids := put nd.kids name T.next }) hj5 rfl rfl).trans (foot_put (T := { T with next := T.next + 1 }) hnk)
    refine ⟨fun b x hb hnb => upd_other (hkeepA b x hb hnb) (fun e => hnb (e ▸ List.mem_cons_of_mem _ ((foot_node hj).2 k hk))) _, fun b hb => ?_⟩
    rw [e, ← List.cons_append] at hb
    rcases List.mem_append.1 hb with hb | hb
    · exact .inl hb
    · simp at hb; right; omega
  have HP := Lib.hid (show DoL w0 S L t T w (fun T' => ∃ n : Nd, n.er = ⟨true, [], [], 0⟩ ∧ T' = mkdirT T j nd name n) (.tuple #[]) (.returned (.tuple #[])) (setBlock w5.drew k o4) from ⟨_, L, _, rfl, hO7, fun _ h => h, H7, hfr, _, rfl, rfl⟩)
  have k3 : w3.cell? ⟨w.heap.size + 1, 0, none⟩ = some (.int .i64 0) := by rw [hO3.cellB m0]; rfl
  rw [hw3, hw2] at k3
  rw [hw2] at c1 fz1 k0
  have c2 : w3.drew.cell? ⟨t, 2, none⟩ = some (.map (some T.bm)) := (H3.at_.inWorld hO3.drew).at0.2.2
  have c4 : w4.cell? ⟨t, 2, none⟩ = some (.map (some T.bm)) := by rw [hO4.cellB (List.mem_cons_of_mem _ (List.mem_cons_of_mem _ H3.at_.cells))]; rfl
  have c5 : w5.cell? ⟨t, 2, none⟩ = some (.map (some T.bm)) := (H5.at_.inWorld hO5).at0.2.2
  have p0 : w5.drew.cell? ⟨w.heap.size, 0, none⟩ = some (.pointer (some ⟨nd.b, 0, none⟩)) := by rw [hO6.cellB m1']; rfl
  have p1 : w5.drew.cell? ⟨w.heap.size, 1, none⟩ = some (.string name) := by rw [hO6.cellB m1']; rfl
  have n0 : w5.drew.cell? ⟨nd.b, 0, none⟩ = some (.map (some k)) := by rw [hO6.cellB hN5.cells 0, ← hk]; rfl
  have hwr : IntKind.i64.wrap (T.next + 1) = T.next + 1 := IntWalk.i64_in _ (by omega)
  clear hO hO2 hO3 hO4 hO5 hO6 hO7 H H2 H3 H5 H7 hN5 hfr hlow hkeep3 hkeep5 hkeepA m0 m1 m1' hj hj5 hne hk x1 x1' x2 x3 y1 y2 y3 hbm3 hw4 hsz2 ht hsz3 hbmlt hw5
  have hnd' : Calls Tryz.prog 127 #[] w3.drew (fun e w' => e = .returned (.pointer (some ⟨w.heap.size + 2 + 1, 0, none⟩)) ∧ w4 = w') := hnd.mono fun e w' h => ⟨h.1, h.2.symm⟩
  clear hnd
  go_enter Tryz.func94, Tryz.ntmps94
  go_wp2_with fail
  rw [← hw2, ← hw3]
  clear hw2 hw3 k0 k3 c1 fz1
  go_region_held3 (fun w' : World => w'.cell? ⟨t, 2, none⟩ = some (.map (some T.bm))) (first | exact c2 | exact c4 | exact c5) (first | (go_at_call 127; refine hnd'.mono ?_; rintro e w' ⟨rfl, rfl⟩))
  all_goals go_wp2_with fail
  all_goals go_still_tail 8, (by kernel_rfl)
  all_goals go_wp2_with fail
  trace_state
  all_goals refine bodyPost_end (v := .tuple #[]) ?_ rfl HP.out
  all_goals simp [results, Tryz.results94, go_sem]
end Go.Proofs.YtkhnkidggcjfeaaGreatDoor
end
