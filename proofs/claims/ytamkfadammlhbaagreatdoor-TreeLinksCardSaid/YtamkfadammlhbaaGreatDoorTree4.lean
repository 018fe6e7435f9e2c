/- A tree with one of its nodes turned. -/
import Derived.Test.YtamkfadammlhbaaGreatDoorTree3
namespace Go.Proofs.YtamkfadammlhbaaGreatDoor
open Go.RowKit
open Go.ChangeMaps (setBlock)
set_option linter.unusedVariables false
set_option linter.unusedSimpArgs false

section
variable {α β : Type} [DecidableEq α]
theorem look_put (m : List (α × β)) (i j : α) (v : β) : look (put m i v) j = if j = i then some v else look m j := by
  induction m with
  | nil =>
    unfold put look
    by_cases h : j = i
    · rw [if_pos h.symm, if_pos h]
    · rw [if_neg (fun e => h e.symm), if_neg h]; rfl
  | cons p r ih =>
    unfold put
    by_cases hp : p.1 = i
    · rw [if_pos hp]
      unfold look
      by_cases h : j = i
      · rw [if_pos h, if_pos h.symm]
      · rw [if_neg (fun e => h e.symm), if_neg h, if_neg (fun e => h (e.symm.trans hp))]
    · rw [if_neg hp]
      unfold look
      by_cases h : p.1 = j
      · rw [if_pos h, if_pos h, if_neg (fun e => hp (h.trans e))]
      · rw [if_neg h, if_neg h]; exact ih
theorem put_keys {m : List (α × β)} {i : α} {n : β} (h : look m i = some n) (v : β) : (put m i v).map (·.1) = m.map (·.1) := by
  induction m with
  | nil => cases h
  | cons p r ih =>
    unfold put
    unfold look at h
    by_cases hp : p.1 = i
    · rw [if_pos hp]; simp [hp]
    · rw [if_neg hp] at h ⊢
      simp [ih h]
theorem mem_put {m : List (α × β)} {i : α} {n : β} (hd : (m.map (·.1)).Nodup) (h : look m i = some n) {v : β} {p : α × β} (hp : p ∈ put m i v) : p = (i, v) ∨ (p ∈ m ∧ p.1 ≠ i) := by
  induction m with
  | nil => cases h
  | cons q r ih =>
    rw [List.map_cons, List.nodup_cons] at hd
    unfold put at hp
    unfold look at h
    by_cases hq : q.1 = i
    · rw [if_pos hq] at hp
      rcases List.mem_cons.1 hp with rfl | hp
      · exact .inl rfl
      · refine .inr ⟨List.mem_cons_of_mem _ hp, fun e => hd.1 ?_⟩
        rw [hq, ← e]; exact List.mem_map_of_mem hp
    · rw [if_neg hq] at hp h
      rcases List.mem_cons.1 hp with rfl | hp
      · exact .inr ⟨List.mem_cons_self .., hq⟩
      · rcases ih hd.2 h hp with h1 | ⟨h1, h2⟩
        · exact .inl h1
        · exact .inr ⟨List.mem_cons_of_mem _ h1, h2⟩
theorem put_map {γ : Type} (f : β → γ) {m : List (α × β)} {i : α} {n v : β} (h : look m i = some n) (hv : f v = f n) : (put m i v).map (fun p => (p.1, f p.2)) = m.map (fun p => (p.1, f p.2)) := by
  induction m with
  | nil => cases h
  | cons p r ih =>
    unfold put
    unfold look at h
    by_cases hp : p.1 = i
    · rw [if_pos hp] at h ⊢
      injection h with h
      simp [hp, hv, h]
    · rw [if_neg hp] at h ⊢
      simp [ih h]
theorem put_flat {γ : Type} (f : β → List γ) {m : List (α × β)} {i : α} {n v : β} (h : look m i = some n) (hv : f v = f n) : (put m i v).flatMap (fun p => f p.2) = m.flatMap (fun p => f p.2) := by
  have := put_map f h hv
  have e : ∀ l : List (α × β), l.flatMap (fun p => f p.2) = (l.map (fun p => (p.1, f p.2))).flatMap (·.2) := fun l => by rw [List.flatMap_map]
  rw [e, e, this]
theorem look_some_of_key {m : List (α × β)} {i : α} (h : i ∈ m.map (·.1)) : ∃ v, look m i = some v := by
  induction m with
  | nil => cases h
  | cons p r ih =>
    unfold look
    by_cases hp : p.1 = i
    · exact ⟨p.2, by rw [if_pos hp]⟩
    · rw [if_neg hp]
      simp only [List.map_cons, List.mem_cons] at h
      rcases h with h | h
      · exact absurd h.symm hp
      · exact ih h
theorem look_of_mem {m : List (α × β)} (hd : (m.map (·.1)).Nodup) {p : α × β} (hp : p ∈ m) : look m p.1 = some p.2 := by
  induction m with
  | nil => cases hp
  | cons q r ih =>
    rw [List.map_cons, List.nodup_cons] at hd
    unfold look
    rcases List.mem_cons.1 hp with rfl | hp
    · rw [if_pos rfl]
    · rw [if_neg (fun e => hd.1 (by rw [e]; exact List.mem_map_of_mem hp))]
      exact ih hd.2 hp
end

def Tr.setN (T : Tr) (i : Int) (n : Nd) : Tr := { T with nodes := put T.nodes i n }
theorem foot_apart {t : Nat} {T : Tr} (h : (t :: T.foot).Nodup) {p q : Int × Nd} (hp : p ∈ T.nodes) (hq : q ∈ T.nodes) (hd : (T.nodes.map (·.1)).Nodup) (hne : p.1 ≠ q.1) {b : Nat} (hb : b ∈ p.2.foot) : b ∉ q.2.foot := by
  unfold Tr.foot at h
  have h2 := (List.nodup_cons.1 (List.nodup_cons.1 h).2).2
  clear h
  generalize T.nodes = m at *
  induction m with
  | nil => cases hp
  | cons x r ih =>
    rw [List.flatMap_cons] at h2
    obtain ⟨a1, a2, a3⟩ := List.nodup_append.1 h2
    rw [List.map_cons, List.nodup_cons] at hd
    rcases List.mem_cons.1 hp with rfl | hp'
    · rcases List.mem_cons.1 hq with rfl | hq'
      · exact absurd rfl hne
      · exact fun hx => a3 b hb b (List.mem_flatMap.2 ⟨q, hq', hx⟩) rfl
    · rcases List.mem_cons.1 hq with rfl | hq'
      · exact fun hx => a3 b hx b (List.mem_flatMap.2 ⟨p, hp', hb⟩) rfl
      · exact ih hp' hq' hd.2 a2
theorem Tree.setN {S S' : Blocks} {D : Value → List Int → Prop} {t : Nat} {T : Tr} (H : Tree S D t T) {i : Int} {n n' : Nd} (hn : look T.nodes i = some n) (hb : n'.b = n.b) (hk : n'.k = n.k)
    (hS : ∀ b o, (b, o) ∈ S → b ∉ n.foot → (b, o) ∈ S') (hN : NodeIn (inS S') D n') (hg : ∀ q ∈ n'.kids, ∃ m, look T.nodes q.2 = some m) : Tree S' D t (T.setN i n') := by
  have hf : n'.foot = n.foot := by unfold Nd.foot; rw [hb, hk]
  have hfoot : (T.setN i n').foot = T.foot := by
    unfold Tr.foot Tr.setN
    rw [put_flat (fun n : Nd => n.foot) hn hf]
  have hmem := look_mem hn
  have ht : t ∉ n.foot := fun hx => (List.nodup_cons.1 H.apart).1 (foot_mem hmem hx)
  have hbm : T.bm ∉ n.foot := fun hx => (List.nodup_cons.1 (List.nodup_cons.1 H.apart).2).1 (List.mem_flatMap.2 ⟨_, hmem, hx⟩)
  have hlk : ∀ j m, look T.nodes j = some m → ∃ m', look (T.setN i n').nodes j = some m' := fun j m hj => by
    unfold Tr.setN
    rw [look_put]
    split
    · exact ⟨_, rfl⟩
    · exact ⟨m, hj⟩
  obtain ⟨o, h1, h2⟩ := H.at_.map
  refine ⟨⟨hS _ _ H.at_.cells ht, ⟨o, hS _ _ h1 hbm, ?_⟩, fun p hp => ?_⟩, by rw [hfoot]; exact H.apart, ⟨?_, ?_, ?_, ?_⟩⟩
  · have : nodesV (T.setN i n') = nodesV T := put_map (fun n : Nd => Value.pointer (some ⟨n.b, 0, none⟩)) hn (by rw [hb])
    rw [this]; exact h2
  · rcases mem_put H.good.keys hn hp with rfl | ⟨h3, h4⟩
    · exact hN
    · exact (H.at_.node p h3).mono (fun b o hb2 ho => hS _ _ ho (foot_apart H.apart h3 hmem H.good.keys h4 hb2)) (fun _ _ h => h)
  · unfold Tr.setN; rw [put_keys hn]; exact H.good.keys
  · obtain ⟨r, k, h3, h4⟩ := H.good.root
    unfold Tr.setN
    rw [look_put]
    by_cases h : (1 : Int) = i
    · rw [if_pos h]
      subst h
      rw [h3] at hn
      injection hn with hn
      subst hn
      exact ⟨n', k, rfl, by rw [hk]; exact h4⟩
    · rw [if_neg h]; exact ⟨r, k, h3, h4⟩
  · intro p hp q hq
    rcases mem_put H.good.keys hn hp with rfl | ⟨h3, _⟩
    · obtain ⟨m, hm⟩ := hg q hq
      exact hlk _ _ hm
    · obtain ⟨m, hm⟩ := H.good.kids p h3 q hq
      exact hlk _ _ hm
  · intro p hp
    rcases mem_put H.good.keys hn hp with rfl | ⟨h3, _⟩
    · exact (show 1 ≤ i ∧ i < T.next from H.good.low _ hmem)
    · exact H.good.low p h3
theorem Tree.setKids {S : Blocks} {D : Value → List Int → Prop} {t : Nat} {T : Tr} (H : Tree S D t T) {i : Int} {n : Nd} (hn : look T.nodes i = some n) {k : Nat} (hk : n.k = some k) {o' : Obj} {kids' : List (ByteArray × Int)}
    (ho : MapO KS o' (kidsV kids')) (hg : ∀ q ∈ kids', ∃ m, look T.nodes q.2 = some m) : Tree (upd S k o') D t (T.setN i { n with kids := kids' }) := by
  have hN := H.at_.node _ (look_mem hn)
  have hkb : n.b ≠ k := fun e => by
    have h1 := (List.nodup_cons.1 (List.nodup_cons.1 H.apart).2).2
    have h2 : n.foot.Nodup := by
      obtain ⟨a, z, hz⟩ := List.append_of_mem (look_mem hn)
      rw [hz, List.flatMap_append, List.flatMap_cons] at h1
      exact (List.nodup_append.1 (List.nodup_append.1 h1).2.1).1
    unfold Nd.foot at h2
    rw [hk, e] at h2
    simp at h2
  obtain ⟨o, h1, _⟩ := hN.kid k hk
  refine H.setN hn rfl rfl (fun b x hb hnb => upd_other hb (fun e => hnb (by rw [e]; unfold Nd.foot; rw [hk]; simp)) o') ⟨upd_other hN.cells hkb o', fun k2 hk2 => ?_, (fun h => by rw [hk] at h; cases h), hN.dat, hN.form⟩ hg
  have : k = k2 := by rw [hk] at hk2; injection hk2
  subst this
  exact ⟨o', upd_same h1 o', ho⟩
theorem Tree.setCells {S : Blocks} {D : Value → List Int → Prop} {t : Nat} {T : Tr} (H : Tree S D t T) {i : Int} {n : Nd} (hn : look T.nodes i = some n) (n' : Nd) (hb : n'.b = n.b) (hk : n'.k = n.k) (hkids : n'.kids = n.kids)
    (hd : D n'.dv n'.data) (hf : ∃ a c, n'.dv = .slice a n'.data.length c) : Tree (upd S n.b (.cells (nodeCells n') 86)) D t (T.setN i n') := by
  have hN := H.at_.node _ (look_mem hn)
  have hfd : n.foot.Nodup := by
    have h1 := (List.nodup_cons.1 (List.nodup_cons.1 H.apart).2).2
    obtain ⟨a, z, hz⟩ := List.append_of_mem (look_mem hn)
    rw [hz, List.flatMap_append, List.flatMap_cons] at h1
    exact (List.nodup_append.1 (List.nodup_append.1 h1).2.1).1
  refine H.setN hn hb hk (fun b x hb2 hnb => upd_other hb2 (fun e => hnb (by rw [e]; exact List.mem_cons_self ..)) _) ⟨by rw [hb]; exact upd_same hN.cells _, fun k2 hk2 => ?_, fun h => by rw [hkids]; exact hN.file (hk ▸ h), hd, hf⟩ (fun q hq => H.good.kids _ (look_mem hn) q (hkids ▸ hq))
  rw [hk] at hk2
  obtain ⟨o, h1, h2⟩ := hN.kid k2 hk2
  refine ⟨o, upd_other h1 (fun e => ?_) _, by rw [hkids]; exact h2⟩
  unfold Nd.foot at hfd
  rw [hk2, e] at hfd
  simp at hfd
end Go.Proofs.YtamkfadammlhbaaGreatDoor
