/- Texts one behind the other, each in a section of its own: what calls make of memory, step by step. -/
import Derived.Test.YtkhnkidggcjfeaaGreatDoorPackNeedHits9
set_option linter.unusedVariables false
set_option linter.unusedSimpArgs false
set_option maxRecDepth 100000
section
namespace Go.Proofs.YtkhnkidggcjfeaaGreatDoor
open Go.RowKit
section
variable {α β : Type} [DecidableEq α]
theorem perm_look {m : List (α × β)} (hd : (m.map (·.1)).Nodup) {a : α} {v : β} (h : look m a = some v) : m.Perm ((a, v) :: m.filter fun p => decide (p.1 ≠ a)) := by
  induction m with
  | nil => cases h
  | cons p r ih =>
    rw [List.map_cons, List.nodup_cons] at hd
    unfold look at h
    by_cases hp : p.1 = a
    · rw [if_pos hp] at h
      injection h with h
      have e : p = (a, v) := by rw [← hp, ← h]
      rw [List.filter_cons_of_neg (by simp [hp]), e]
      have : r.filter (fun p => decide (p.1 ≠ a)) = r := List.filter_eq_self.2 fun q hq => by
        have : q.1 ≠ a := fun e => hd.1 (List.mem_map.2 ⟨q, hq, e.trans hp.symm⟩)
        simpa using this
      rw [this]
    · rw [if_neg hp] at h
      rw [List.filter_cons_of_pos (by simp [hp])]
      exact ((ih hd.2 h).cons p).trans (List.Perm.swap _ _ _)
theorem look_none_key {m : List (α × β)} {a : α} (h : look m a = none) : a ∉ m.map (·.1) := fun hm => by
  obtain ⟨v, hv⟩ := look_some_of_key hm
  rw [h] at hv; cases hv
theorem del_eq_perm {m : List (α × β)} (hd : (m.map (·.1)).Nodup) {a : α} {v : β} (h : look m a = some v) : m.Perm ((a, v) :: del m a) := by
  rw [del_filter hd]; exact perm_look hd h
end
theorem sum_put {m : List (Int × ENd)} (hd : (m.map (·.1)).Nodup) {a : Int} {u : ENd} (h : look m a = some u) (v : ENd) (f : ENd → Nat) : ((put m a v).map fun p => f p.2).sum + f u = (m.map fun p => f p.2).sum + f v := by
  have h1 := ((put_filter hd a v).map fun p => f p.2).sum_nat
  have h2 := ((perm_look hd h).map fun p => f p.2).sum_nat
  simp only [List.map_cons, List.sum_cons] at h1 h2
  omega
theorem sum_new {m : List (Int × ENd)} {a : Int} (h : look m a = none) (v : ENd) (f : ENd → Nat) : ((put m a v).map fun p => f p.2).sum = (m.map fun p => f p.2).sum + f v := by
  rw [put_new (look_none_key h)]
  simp
theorem sum_del {m : List (Int × ENd)} (hd : (m.map (·.1)).Nodup) {a : Int} {u : ENd} (h : look m a = some u) (f : ENd → Nat) : ((del m a).map fun p => f p.2).sum + f u = (m.map fun p => f p.2).sum := by
  have h2 := ((del_eq_perm hd h).map fun p => f p.2).sum_nat
  simp only [List.map_cons, List.sum_cons] at h2
  omega
def inK (kids : List (ByteArray × Int)) (x : Int) : Nat := (kids.map (·.2)).count x
def refs (m : List (Int × ENd)) (x : Int) : Nat := (m.map fun p => inK p.2.kids x).sum
def ents (m : List (Int × ENd)) : Nat := (m.map fun p => p.2.kids.length).sum
theorem inK_put {kids : List (ByteArray × Int)} {name : ByteArray} (h : look kids name = none) (i x : Int) : inK (put kids name i) x = inK kids x + if i = x then 1 else 0 := by
  rw [put_new (look_none_key h)]
  unfold inK
  rw [List.map_append, List.count_append]
  simp [List.count_cons]
theorem inK_del {kids : List (ByteArray × Int)} (hd : (kids.map (·.1)).Nodup) {name : ByteArray} {i : Int} (h : look kids name = some i) (x : Int) : inK (del kids name) x + (if i = x then 1 else 0) = inK kids x := by
  have h1 := ((del_eq_perm hd h).map (·.2)).count_eq x
  unfold inK
  rw [h1, List.map_cons, List.count_cons]
  simp
theorem len_put {kids : List (ByteArray × Int)} {name : ByteArray} (h : look kids name = none) (i : Int) : (put kids name i).length = kids.length + 1 := by
  rw [put_new (look_none_key h)]; simp
theorem refs_le (m : List (Int × ENd)) (x : Int) : refs m x ≤ ents m := by
  unfold refs ents
  induction m with
  | nil => exact Nat.le_refl _
  | cons p r ih =>
    simp only [List.map_cons, List.sum_cons]
    have : inK p.2.kids x ≤ p.2.kids.length := by
      unfold inK
      exact Nat.le_trans (List.count_le_length ..) (by simp)
    omega
theorem refs_pos {m : List (Int × ENd)} {p : Int × ENd} (hp : p ∈ m) {q : ByteArray × Int} (hq : q ∈ p.2.kids) : 1 ≤ refs m q.2 := by
  unfold refs
  induction m with
  | nil => cases hp
  | cons y r ih =>
    simp only [List.map_cons, List.sum_cons]
    rcases List.mem_cons.1 hp with rfl | hp
    · have : 0 < inK p.2.kids q.2 := List.count_pos_iff.2 (List.mem_map.2 ⟨q, hq, rfl⟩)
      omega
    · have := ih hp
      omega
theorem refs_zero {m : List (Int × ENd)} {x : Int} (h : refs m x = 0) {p : Int × ENd} (hp : p ∈ m) {q : ByteArray × Int} (hq : q ∈ p.2.kids) : q.2 ≠ x := fun e => by
  have := refs_pos hp hq
  rw [e] at this
  omega
theorem refs_none {m : List (Int × ENd)} {x : Int} (h : ∀ p ∈ m, ∀ q ∈ p.2.kids, q.2 ≠ x) : refs m x = 0 := by
  unfold refs
  induction m with
  | nil => rfl
  | cons y r ih =>
    simp only [List.map_cons, List.sum_cons]
    have h1 := ih fun p hp => h p (List.mem_cons_of_mem _ hp)
    have h2 : inK y.2.kids x = 0 := List.count_eq_zero.2 fun hm => by
      obtain ⟨q, hq, e⟩ := List.mem_map.1 hm
      exact h y (List.mem_cons_self ..) q hq e
    omega
structure Inv (E : Et) (B : Nat) : Prop where
  keys : (E.nodes.map (·.1)).Nodup
  root : ∃ n, look E.nodes 1 = some n ∧ n.dir = true
  kids : ∀ i n, look E.nodes i = some n → ∀ q ∈ n.kids, ∃ m, look E.nodes q.2 = some m ∧ (m.dir = true → i < q.2)
  names : ∀ i n, look E.nodes i = some n → (n.kids.map (·.1)).Nodup
  file : ∀ i n, look E.nodes i = some n → n.dir = false → n.kids = [] ∧ n.places = (refs E.nodes i : Int)
  dirs : ∀ i n, look E.nodes i = some n → n.dir = true → i ≠ 1 → refs E.nodes i = 1
  top : refs E.nodes 1 = 0
  low : ∀ i n, look E.nodes i = some n → 1 ≤ i ∧ i < E.next
  small : ∀ i n, look E.nodes i = some n → n.data.length ≤ 3500
  ents : ents E.nodes ≤ B
  nx : E.next ≤ (B : Int) + 2
  sum : sumE E.nodes ≤ 3500 * B
  len : E.nodes.length ≤ B + 1
theorem Inv.mono {E : Et} {B B' : Nat} (h : Inv E B) (hb : B ≤ B') : Inv E B' :=
  ⟨h.keys, h.root, h.kids, h.names, h.file, h.dirs, h.top, h.low, h.small, Nat.le_trans h.ents hb, by have := h.nx; omega, by have := h.sum; omega, by have := h.len; omega⟩
theorem Inv.fresh {E : Et} {B : Nat} (h : Inv E B) : look E.nodes E.next = none := by
  cases h1 : look E.nodes E.next with
  | none => rfl
  | some n => exact absurd (h.low _ _ h1).2 (Int.lt_irrefl _)
theorem Inv.freshRefs {E : Et} {B : Nat} (h : Inv E B) : refs E.nodes E.next = 0 := refs_none fun p hp q hq e => by
  obtain ⟨m, hm, _⟩ := h.kids p.1 p.2 (look_of_mem h.keys hp) q hq
  rw [e, h.fresh] at hm; cases hm
theorem Inv.first {E : Et} {B : Nat} (h : Inv E B) : 1 < E.next := by
  obtain ⟨n, h1, _⟩ := h.root
  exact (h.low _ _ h1).2
theorem nodes_len_put {m : List (Int × ENd)} {a : Int} {u : ENd} (h : look m a = some u) (v : ENd) : (put m a v).length = m.length := by
  have := congrArg List.length (put_keys h v)
  simpa using this
theorem Inv.put {E : Et} {B B' : Nat} (h : Inv E B) (hB : B ≤ B') (he : Go.Proofs.YtkhnkidggcjfeaaGreatDoor.ents E.nodes + 1 ≤ B') {j i : Int} {nd f : ENd} {name : ByteArray} (hj : look E.nodes j = some nd) (hnd : nd.dir = true) (hx : look nd.kids name = none) (hi : look E.nodes i = some f) (hf : f.dir = false) : Inv (putEx E j name i) B' := by
  have hij : i ≠ j := fun e => by rw [e, hj] at hi; injection hi with hi; rw [hi, hf] at hnd; cases hnd
  have e : putEx E j name i = { E with nodes := Go.Proofs.YtkhnkidggcjfeaaGreatDoor.put (Go.Proofs.YtkhnkidggcjfeaaGreatDoor.put E.nodes j { nd with kids := Go.Proofs.YtkhnkidggcjfeaaGreatDoor.put nd.kids name i }) i { f with places := f.places + 1 } } := by unfold putEx; rw [hj, hi]
  rw [e]
  have hi2 : look (Go.Proofs.YtkhnkidggcjfeaaGreatDoor.put E.nodes j { nd with kids := Go.Proofs.YtkhnkidggcjfeaaGreatDoor.put nd.kids name i }) i = some f := by rw [look_put, if_neg hij]; exact hi
  have k1 := put_nodup h.keys j { nd with kids := Go.Proofs.YtkhnkidggcjfeaaGreatDoor.put nd.kids name i }
  have k2 := put_nodup k1 i { f with places := f.places + 1 }
  have hfk := (h.file i f hi hf).1
  have hlk : ∀ x, look (Go.Proofs.YtkhnkidggcjfeaaGreatDoor.put (Go.Proofs.YtkhnkidggcjfeaaGreatDoor.put E.nodes j { nd with kids := Go.Proofs.YtkhnkidggcjfeaaGreatDoor.put nd.kids name i }) i { f with places := f.places + 1 }) x = if x = i then some { f with places := f.places + 1 } else if x = j then some { nd with kids := Go.Proofs.YtkhnkidggcjfeaaGreatDoor.put nd.kids name i } else look E.nodes x := fun x => by rw [look_put, look_put]
  have hsum := fun g => sum_put k1 hi2 { f with places := f.places + 1 } g
  have hsum0 := fun g => sum_put h.keys hj { nd with kids := Go.Proofs.YtkhnkidggcjfeaaGreatDoor.put nd.kids name i } g
  have hrefs : ∀ x, refs (Go.Proofs.YtkhnkidggcjfeaaGreatDoor.put (Go.Proofs.YtkhnkidggcjfeaaGreatDoor.put E.nodes j { nd with kids := Go.Proofs.YtkhnkidggcjfeaaGreatDoor.put nd.kids name i }) i { f with places := f.places + 1 }) x = refs E.nodes x + if i = x then 1 else 0 := fun x => by
    have h1 := hsum fun n => inK n.kids x
    have h2 := hsum0 fun n => inK n.kids x
    have h3 := inK_put hx i x
    unfold refs
    simp only at h1 h2
    omega
  generalize hM : Go.Proofs.YtkhnkidggcjfeaaGreatDoor.put (Go.Proofs.YtkhnkidggcjfeaaGreatDoor.put E.nodes j { nd with kids := Go.Proofs.YtkhnkidggcjfeaaGreatDoor.put nd.kids name i }) i { f with places := f.places + 1 } = M at *
  have hold : ∀ x m, look E.nodes x = some m → ∃ m', look M x = some m' ∧ m'.dir = m.dir := fun x m hm => by
    rw [hlk]
    by_cases e1 : x = i
    · rw [if_pos e1]; rw [e1, hi] at hm; injection hm with hm; exact ⟨_, rfl, by rw [← hm]⟩
    · rw [if_neg e1]
      by_cases e2 : x = j
      · rw [if_pos e2]; rw [e2, hj] at hm; injection hm with hm; exact ⟨_, rfl, by rw [← hm]⟩
      · rw [if_neg e2]; exact ⟨m, hm, rfl⟩
  have hnew : ∀ x n, look M x = some n → (x = i ∧ n = { f with places := f.places + 1 }) ∨ (x ≠ i ∧ x = j ∧ n = { nd with kids := Go.Proofs.YtkhnkidggcjfeaaGreatDoor.put nd.kids name i }) ∨ (x ≠ i ∧ x ≠ j ∧ look E.nodes x = some n) := fun x n hn => by
    rw [hlk] at hn
    by_cases e1 : x = i
    · rw [if_pos e1] at hn; injection hn with hn; exact .inl ⟨e1, hn.symm⟩
    · rw [if_neg e1] at hn
      by_cases e2 : x = j
      · rw [if_pos e2] at hn; injection hn with hn; exact .inr (.inl ⟨e1, e2, hn.symm⟩)
      · rw [if_neg e2] at hn; exact .inr (.inr ⟨e1, e2, hn⟩)
  have hkid : ∀ x n q, look E.nodes x = some n → q ∈ n.kids → ∃ m, look M q.2 = some m ∧ (m.dir = true → x < q.2) := fun x n q hn hq => by
    obtain ⟨m, h1, h2⟩ := h.kids x n hn q hq
    obtain ⟨m', h3, h4⟩ := hold _ _ h1
    exact ⟨m', h3, fun hd => h2 (h4 ▸ hd)⟩
  refine ⟨k2, ?_, fun x n hn q hq => ?_, fun x n hn => ?_, fun x n hn hd => ?_, fun x n hn hd hx1 => ?_, ?_, fun x n hn => ?_, fun x n hn => ?_, ?_, by have := h.nx; show E.next ≤ _; omega, ?_, ?_⟩
  · obtain ⟨n, h1, h2⟩ := h.root
    obtain ⟨m', h3, h4⟩ := hold _ _ h1
    exact ⟨m', h3, h4.trans h2⟩
  · rcases hnew x n hn with ⟨rfl, rfl⟩ | ⟨_, rfl, rfl⟩ | ⟨_, _, h1⟩
    · exact hkid x f q hi hq
    · rcases mem_putk hq with rfl | hq
      · exact ⟨{ f with places := f.places + 1 }, by rw [hlk, if_pos rfl], fun hd => by rw [show ({ f with places := f.places + 1 } : ENd).dir = f.dir from rfl, hf] at hd; cases hd⟩
      · exact hkid x nd q hj hq
    · exact hkid x n q h1 hq
  · rcases hnew x n hn with ⟨rfl, rfl⟩ | ⟨_, rfl, rfl⟩ | ⟨_, _, h1⟩
    · exact h.names x f hi
    · exact put_nodup (h.names x nd hj) name i
    · exact h.names x n h1
  · show n.kids = [] ∧ n.places = (refs M x : Int)
    rw [hrefs]
    rcases hnew x n hn with ⟨rfl, rfl⟩ | ⟨_, rfl, rfl⟩ | ⟨h0, _, h1⟩
    · obtain ⟨h2, h3⟩ := h.file x f hi hf
      refine ⟨h2, ?_⟩
      show f.places + 1 = _
      rw [if_pos rfl, h3]; push_cast; rfl
    · rw [show ({ nd with kids := Go.Proofs.YtkhnkidggcjfeaaGreatDoor.put nd.kids name i } : ENd).dir = nd.dir from rfl, hnd] at hd; cases hd
    · obtain ⟨h2, h3⟩ := h.file x n h1 hd
      exact ⟨h2, by rw [if_neg (Ne.symm h0), h3]; simp⟩
  · show refs M x = 1
    rw [hrefs]
    rcases hnew x n hn with ⟨rfl, rfl⟩ | ⟨h0, rfl, rfl⟩ | ⟨h0, _, h1⟩
    · rw [show ({ f with places := f.places + 1 } : ENd).dir = f.dir from rfl, hf] at hd; cases hd
    · rw [if_neg (Ne.symm h0), h.dirs x nd hj hnd hx1]
    · rw [if_neg (Ne.symm h0), h.dirs x n h1 hd hx1]
  · show refs M 1 = 0
    rw [hrefs, h.top, if_neg]
    rintro rfl
    obtain ⟨n, h1, h2⟩ := h.root
    rw [hi] at h1; injection h1 with h1
    rw [← h1, hf] at h2; cases h2
  · show 1 ≤ x ∧ x < E.next
    rcases hnew x n hn with ⟨rfl, rfl⟩ | ⟨_, rfl, rfl⟩ | ⟨_, _, h1⟩
    · exact h.low x f hi
    · exact h.low x nd hj
    · exact h.low x n h1
  · rcases hnew x n hn with ⟨rfl, rfl⟩ | ⟨_, rfl, rfl⟩ | ⟨_, _, h1⟩
    · exact h.small x f hi
    · exact h.small x nd hj
    · exact h.small x n h1
  · have h1 := hsum fun n => n.kids.length
    have h2 := hsum0 fun n => n.kids.length
    have h3 := len_put hx i
    have h4 := he
    unfold Go.Proofs.YtkhnkidggcjfeaaGreatDoor.ents at h4 ⊢
    simp only at h1 h2
    show (M.map _).sum ≤ _
    omega
  · have h1 := hsum fun n => n.data.length
    have h2 := hsum0 fun n => n.data.length
    have h4 := h.sum
    unfold sumE at h4 ⊢
    simp only at h1 h2
    show (M.map _).sum ≤ _
    omega
  · have h1 := h.len
    show M.length ≤ _
    rw [← hM, nodes_len_put hi2, nodes_len_put hj]
    omega
theorem mem_delk {kids : List (ByteArray × Int)} {name : ByteArray} {q : ByteArray × Int} (h : q ∈ del kids name) : q ∈ kids := (del_sub kids name).subset h
theorem Inv.take {E : Et} {B : Nat} (h : Inv E B) {j i : Int} {nd f : ENd} {name : ByteArray} (hj : look E.nodes j = some nd) (hx : look nd.kids name = some i) (hi : look E.nodes i = some f) (hf : f.dir = false) : Inv (takeEx E j name) B := by
  have hnd : nd.dir = true := by
    cases hd : nd.dir with
    | true => rfl
    | false => rw [(h.file j nd hj hd).1] at hx; cases hx
  have hij : j ≠ i := fun e => by rw [← e, hj] at hi; injection hi with hi; rw [hi, hf] at hnd; cases hnd
  have e : takeEx E j name = { E with nodes := Go.Proofs.YtkhnkidggcjfeaaGreatDoor.put (Go.Proofs.YtkhnkidggcjfeaaGreatDoor.put E.nodes i { f with places := f.places - 1 }) j { nd with kids := del nd.kids name } } := by unfold takeEx; simp only [hj, hx, hi]
  rw [e]
  have hj2 : look (Go.Proofs.YtkhnkidggcjfeaaGreatDoor.put E.nodes i { f with places := f.places - 1 }) j = some nd := by rw [look_put, if_neg hij]; exact hj
  have k1 := put_nodup h.keys i { f with places := f.places - 1 }
  have k2 := put_nodup k1 j { nd with kids := del nd.kids name }
  have hlk : ∀ x, look (Go.Proofs.YtkhnkidggcjfeaaGreatDoor.put (Go.Proofs.YtkhnkidggcjfeaaGreatDoor.put E.nodes i { f with places := f.places - 1 }) j { nd with kids := del nd.kids name }) x = if x = j then some { nd with kids := del nd.kids name } else if x = i then some { f with places := f.places - 1 } else look E.nodes x := fun x => by rw [look_put, look_put]
  have hsum := fun g => sum_put k1 hj2 { nd with kids := del nd.kids name } g
  have hsum0 := fun g => sum_put h.keys hi { f with places := f.places - 1 } g
  have hnm := h.names j nd hj
  have hrefs : ∀ x, refs (Go.Proofs.YtkhnkidggcjfeaaGreatDoor.put (Go.Proofs.YtkhnkidggcjfeaaGreatDoor.put E.nodes i { f with places := f.places - 1 }) j { nd with kids := del nd.kids name }) x + (if i = x then 1 else 0) = refs E.nodes x := fun x => by
    have h1 := hsum fun n => inK n.kids x
    have h2 := hsum0 fun n => inK n.kids x
    have h3 := inK_del hnm hx x
    unfold refs
    simp only at h1 h2
    omega
  generalize hM : Go.Proofs.YtkhnkidggcjfeaaGreatDoor.put (Go.Proofs.YtkhnkidggcjfeaaGreatDoor.put E.nodes i { f with places := f.places - 1 }) j { nd with kids := del nd.kids name } = M at *
  have hold : ∀ x m, look E.nodes x = some m → ∃ m', look M x = some m' ∧ m'.dir = m.dir := fun x m hm => by
    rw [hlk]
    by_cases e1 : x = j
    · rw [if_pos e1]; rw [e1, hj] at hm; injection hm with hm; exact ⟨_, rfl, by rw [← hm]⟩
    · rw [if_neg e1]
      by_cases e2 : x = i
      · rw [if_pos e2]; rw [e2, hi] at hm; injection hm with hm; exact ⟨_, rfl, by rw [← hm]⟩
      · rw [if_neg e2]; exact ⟨m, hm, rfl⟩
  have hnew : ∀ x n, look M x = some n → (x = j ∧ n = { nd with kids := del nd.kids name }) ∨ (x ≠ j ∧ x = i ∧ n = { f with places := f.places - 1 }) ∨ (x ≠ j ∧ x ≠ i ∧ look E.nodes x = some n) := fun x n hn => by
    rw [hlk] at hn
    by_cases e1 : x = j
    · rw [if_pos e1] at hn; injection hn with hn; exact .inl ⟨e1, hn.symm⟩
    · rw [if_neg e1] at hn
      by_cases e2 : x = i
      · rw [if_pos e2] at hn; injection hn with hn; exact .inr (.inl ⟨e1, e2, hn.symm⟩)
      · rw [if_neg e2] at hn; exact .inr (.inr ⟨e1, e2, hn⟩)
  have hkid : ∀ x n q, look E.nodes x = some n → q ∈ n.kids → ∃ m, look M q.2 = some m ∧ (m.dir = true → x < q.2) := fun x n q hn hq => by
    obtain ⟨m, h1, h2⟩ := h.kids x n hn q hq
    obtain ⟨m', h3, h4⟩ := hold _ _ h1
    exact ⟨m', h3, fun hd => h2 (h4 ▸ hd)⟩
  refine ⟨k2, ?_, fun x n hn q hq => ?_, fun x n hn => ?_, fun x n hn hd => ?_, fun x n hn hd hx1 => ?_, ?_, fun x n hn => ?_, fun x n hn => ?_, ?_, h.nx, ?_, ?_⟩
  · obtain ⟨n, h1, h2⟩ := h.root
    obtain ⟨m', h3, h4⟩ := hold _ _ h1
    exact ⟨m', h3, h4.trans h2⟩
  · rcases hnew x n hn with ⟨rfl, rfl⟩ | ⟨_, rfl, rfl⟩ | ⟨_, _, h1⟩
    · exact hkid x nd q hj (mem_delk hq)
    · exact hkid x f q hi hq
    · exact hkid x n q h1 hq
  · rcases hnew x n hn with ⟨rfl, rfl⟩ | ⟨_, rfl, rfl⟩ | ⟨_, _, h1⟩
    · exact hnm.sublist ((del_sub nd.kids name).map _)
    · exact h.names x f hi
    · exact h.names x n h1
  · show n.kids = [] ∧ n.places = (refs M x : Int)
    have hr := hrefs x
    rcases hnew x n hn with ⟨rfl, rfl⟩ | ⟨_, rfl, rfl⟩ | ⟨_, h0, h1⟩
    · rw [show ({ nd with kids := del nd.kids name } : ENd).dir = nd.dir from rfl, hnd] at hd; cases hd
    · obtain ⟨h2, h3⟩ := h.file x f hi hf
      refine ⟨h2, ?_⟩
      show f.places - 1 = _
      rw [if_pos rfl] at hr
      rw [h3, ← hr]; push_cast; omega
    · obtain ⟨h2, h3⟩ := h.file x n h1 hd
      rw [if_neg (Ne.symm h0)] at hr
      exact ⟨h2, by rw [h3, ← hr]; simp⟩
  · show refs M x = 1
    have hr := hrefs x
    rcases hnew x n hn with ⟨rfl, rfl⟩ | ⟨h0, rfl, rfl⟩ | ⟨_, h0, h1⟩
    · rw [if_neg (Ne.symm hij), h.dirs x nd hj hnd hx1] at hr; exact hr
    · rw [show ({ f with places := f.places - 1 } : ENd).dir = f.dir from rfl, hf] at hd; cases hd
    · rw [if_neg (Ne.symm h0), h.dirs x n h1 hd hx1] at hr; exact hr
  · show refs M 1 = 0
    have := hrefs 1
    rw [h.top] at this
    omega
  · show 1 ≤ x ∧ x < E.next
    rcases hnew x n hn with ⟨rfl, rfl⟩ | ⟨_, rfl, rfl⟩ | ⟨_, _, h1⟩
    · exact h.low x nd hj
    · exact h.low x f hi
    · exact h.low x n h1
  · rcases hnew x n hn with ⟨rfl, rfl⟩ | ⟨_, rfl, rfl⟩ | ⟨_, _, h1⟩
    · exact h.small x nd hj
    · exact h.small x f hi
    · exact h.small x n h1
  · have h1 := hsum fun n => n.kids.length
    have h2 := hsum0 fun n => n.kids.length
    have h3 := (del_sub nd.kids name).length_le
    have h4 := h.ents
    unfold Go.Proofs.YtkhnkidggcjfeaaGreatDoor.ents at h4 ⊢
    simp only at h1 h2
    show (M.map _).sum ≤ _
    omega
  · have h1 := hsum fun n => n.data.length
    have h2 := hsum0 fun n => n.data.length
    have h4 := h.sum
    unfold sumE at h4 ⊢
    simp only at h1 h2
    show (M.map _).sum ≤ _
    omega
  · have h1 := h.len
    show M.length ≤ _
    rw [← hM, nodes_len_put hj2, nodes_len_put hi]
    omega
theorem Inv.write {E : Et} {B : Nat} (h : Inv E B) {i : Int} {f : ENd} (hi : look E.nodes i = some f) (hf : f.dir = false) {zs : List Int} (hz : zs.length ≤ 3500) : Inv { E with nodes := Go.Proofs.YtkhnkidggcjfeaaGreatDoor.put E.nodes i { f with data := zs } } (B + 1) := by
  have hlk : ∀ x, look (Go.Proofs.YtkhnkidggcjfeaaGreatDoor.put E.nodes i { f with data := zs }) x = if x = i then some { f with data := zs } else look E.nodes x := fun x => look_put ..
  have hsum := fun g => sum_put h.keys hi { f with data := zs } g
  have k2 := put_nodup h.keys i { f with data := zs }
  have hrefs : ∀ x, refs (Go.Proofs.YtkhnkidggcjfeaaGreatDoor.put E.nodes i { f with data := zs }) x = refs E.nodes x := fun x => by
    have h1 := hsum fun n => inK n.kids x
    unfold refs
    simp only at h1
    omega
  have hlen := nodes_len_put hi { f with data := zs }
  generalize hM : Go.Proofs.YtkhnkidggcjfeaaGreatDoor.put E.nodes i { f with data := zs } = M at *
  have hold : ∀ x m, look E.nodes x = some m → ∃ m', look M x = some m' ∧ m'.dir = m.dir := fun x m hm => by
    rw [hlk]
    by_cases e1 : x = i
    · rw [if_pos e1]; rw [e1, hi] at hm; injection hm with hm; exact ⟨_, rfl, by rw [← hm]⟩
    · rw [if_neg e1]; exact ⟨m, hm, rfl⟩
  have hnew : ∀ x n, look M x = some n → ∃ n0, look E.nodes x = some n0 ∧ n0.dir = n.dir ∧ n0.kids = n.kids ∧ n0.places = n.places := fun x n hn => by
    rw [hlk] at hn
    by_cases e1 : x = i
    · rw [if_pos e1] at hn; injection hn with hn; exact ⟨f, e1 ▸ hi, by rw [← hn], by rw [← hn], by rw [← hn]⟩
    · rw [if_neg e1] at hn; exact ⟨n, hn, rfl, rfl, rfl⟩
  refine ⟨k2, ?_, fun x n hn q hq => ?_, fun x n hn => ?_, fun x n hn hd => ?_, fun x n hn hd hx1 => ?_, by show refs M 1 = 0; rw [hrefs, h.top], fun x n hn => ?_, fun x n hn => ?_, ?_, by have := h.nx; show E.next ≤ _; omega, ?_, by show M.length ≤ _; have := h.len; omega⟩
  · obtain ⟨n, h1, h2⟩ := h.root
    obtain ⟨m', h3, h4⟩ := hold _ _ h1
    exact ⟨m', h3, h4.trans h2⟩
  · obtain ⟨n0, h1, _, h3, _⟩ := hnew x n hn
    obtain ⟨m, h4, h5⟩ := h.kids x n0 h1 q (h3 ▸ hq)
    obtain ⟨m', h6, h7⟩ := hold _ _ h4
    exact ⟨m', h6, fun hd => h5 (h7 ▸ hd)⟩
  · obtain ⟨n0, h1, _, h3, _⟩ := hnew x n hn
    exact h3 ▸ h.names x n0 h1
  · show n.kids = [] ∧ n.places = (refs M x : Int)
    obtain ⟨n0, h1, h2, h3, h4⟩ := hnew x n hn
    rw [hrefs, ← h3, ← h4]
    exact h.file x n0 h1 (h2.trans hd)
  · show refs M x = 1
    obtain ⟨n0, h1, h2, h3, h4⟩ := hnew x n hn
    rw [hrefs]
    exact h.dirs x n0 h1 (h2.trans hd) hx1
  · obtain ⟨n0, h1, _⟩ := hnew x n hn
    exact h.low x n0 h1
  · rw [hlk] at hn
    by_cases e1 : x = i
    · rw [if_pos e1] at hn; injection hn with hn; rw [← hn]; exact hz
    · rw [if_neg e1] at hn; exact h.small x n hn
  · have h1 := hsum fun n => n.kids.length
    have h4 := h.ents
    unfold Go.Proofs.YtkhnkidggcjfeaaGreatDoor.ents at h4 ⊢
    simp only at h1
    show (M.map _).sum ≤ _
    omega
  · have h1 := hsum fun n => n.data.length
    have h4 := h.sum
    unfold sumE at h4 ⊢
    simp only at h1
    show (M.map _).sum ≤ _
    omega
end Go.Proofs.YtkhnkidggcjfeaaGreatDoor
end
section
namespace Go.Proofs.YtkhnkidggcjfeaaGreatDoor
open Go.RowKit
theorem Inv.mkdir {E : Et} {B : Nat} (h : Inv E B) {j : Int} {nd : ENd} {name : ByteArray} (hj : look E.nodes j = some nd) (hnd : nd.dir = true) (hx : look nd.kids name = none) : Inv (mkdirE E j nd name) (B + 1) := by
  have hfr := h.fresh
  have hjn : j ≠ E.next := fun e => by rw [e, hfr] at hj; cases hj
  have hj2 : look (Go.Proofs.YtkhnkidggcjfeaaGreatDoor.put E.nodes E.next ⟨true, [], [], 0⟩) j = some nd := by rw [look_put, if_neg hjn]; exact hj
  have k1 := put_nodup h.keys E.next (⟨true, [], [], 0⟩ : ENd)
  have k2 := put_nodup k1 j { nd with kids := Go.Proofs.YtkhnkidggcjfeaaGreatDoor.put nd.kids name E.next }
  have hlk : ∀ x, look (Go.Proofs.YtkhnkidggcjfeaaGreatDoor.put (Go.Proofs.YtkhnkidggcjfeaaGreatDoor.put E.nodes E.next ⟨true, [], [], 0⟩) j { nd with kids := Go.Proofs.YtkhnkidggcjfeaaGreatDoor.put nd.kids name E.next }) x = if x = j then some { nd with kids := Go.Proofs.YtkhnkidggcjfeaaGreatDoor.put nd.kids name E.next } else if x = E.next then some ⟨true, [], [], 0⟩ else look E.nodes x := fun x => by rw [look_put, look_put]
  have hsum := fun g => sum_put k1 hj2 { nd with kids := Go.Proofs.YtkhnkidggcjfeaaGreatDoor.put nd.kids name E.next } g
  have hsum0 := fun g => sum_new hfr (⟨true, [], [], 0⟩ : ENd) g
  have hrefs : ∀ x, refs (Go.Proofs.YtkhnkidggcjfeaaGreatDoor.put (Go.Proofs.YtkhnkidggcjfeaaGreatDoor.put E.nodes E.next ⟨true, [], [], 0⟩) j { nd with kids := Go.Proofs.YtkhnkidggcjfeaaGreatDoor.put nd.kids name E.next }) x = refs E.nodes x + if E.next = x then 1 else 0 := fun x => by
    have h1 := hsum fun n => inK n.kids x
    have h2 := hsum0 fun n => inK n.kids x
    have h3 := inK_put hx E.next x
    have h4 : inK [] x = 0 := rfl
    unfold refs
    try simp only at h1 h2
    omega
  have hlen : (Go.Proofs.YtkhnkidggcjfeaaGreatDoor.put (Go.Proofs.YtkhnkidggcjfeaaGreatDoor.put E.nodes E.next ⟨true, [], [], 0⟩) j { nd with kids := Go.Proofs.YtkhnkidggcjfeaaGreatDoor.put nd.kids name E.next }).length = E.nodes.length + 1 := by
    rw [nodes_len_put hj2, put_new (look_none_key hfr)]; simp
  show Inv { E with next := E.next + 1, nodes := Go.Proofs.YtkhnkidggcjfeaaGreatDoor.put (Go.Proofs.YtkhnkidggcjfeaaGreatDoor.put E.nodes E.next ⟨true, [], [], 0⟩) j { nd with kids := Go.Proofs.YtkhnkidggcjfeaaGreatDoor.put nd.kids name E.next } } (B + 1)
  generalize hM : Go.Proofs.YtkhnkidggcjfeaaGreatDoor.put (Go.Proofs.YtkhnkidggcjfeaaGreatDoor.put E.nodes E.next ⟨true, [], [], 0⟩) j { nd with kids := Go.Proofs.YtkhnkidggcjfeaaGreatDoor.put nd.kids name E.next } = M at *
  have hold : ∀ x m, look E.nodes x = some m → ∃ m', look M x = some m' ∧ m'.dir = m.dir := fun x m hm => by
    rw [hlk]
    by_cases e1 : x = j
    · rw [if_pos e1]; rw [e1, hj] at hm; injection hm with hm; exact ⟨_, rfl, by rw [← hm]⟩
    · rw [if_neg e1, if_neg (fun e => by rw [e, hfr] at hm; cases hm)]; exact ⟨m, hm, rfl⟩
  have hnew : ∀ x n, look M x = some n → (x = j ∧ n = { nd with kids := Go.Proofs.YtkhnkidggcjfeaaGreatDoor.put nd.kids name E.next }) ∨ (x ≠ j ∧ x = E.next ∧ n = ⟨true, [], [], 0⟩) ∨ (x ≠ j ∧ x ≠ E.next ∧ look E.nodes x = some n) := fun x n hn => by
    rw [hlk] at hn
    by_cases e1 : x = j
    · rw [if_pos e1] at hn; injection hn with hn; exact .inl ⟨e1, hn.symm⟩
    · rw [if_neg e1] at hn
      by_cases e2 : x = E.next
      · rw [if_pos e2] at hn; injection hn with hn; exact .inr (.inl ⟨e1, e2, hn.symm⟩)
      · rw [if_neg e2] at hn; exact .inr (.inr ⟨e1, e2, hn⟩)
  have hkid : ∀ x n q, look E.nodes x = some n → q ∈ n.kids → ∃ m, look M q.2 = some m ∧ (m.dir = true → x < q.2) := fun x n q hn hq => by
    obtain ⟨m, h1, h2⟩ := h.kids x n hn q hq
    obtain ⟨m', h3, h4⟩ := hold _ _ h1
    exact ⟨m', h3, fun hd => h2 (h4 ▸ hd)⟩
  have hfirst := h.first
  refine ⟨k2, ?_, fun x n hn q hq => ?_, fun x n hn => ?_, fun x n hn hd => ?_, fun x n hn hd hx1 => ?_, ?_, fun x n hn => ?_, fun x n hn => ?_, ?_, by have := h.nx; show E.next + 1 ≤ _; push_cast; omega, ?_, by show M.length ≤ _; have := h.len; omega⟩
  · obtain ⟨n, h1, h2⟩ := h.root
    obtain ⟨m', h3, h4⟩ := hold _ _ h1
    exact ⟨m', h3, h4.trans h2⟩
  · rcases hnew x n hn with ⟨rfl, rfl⟩ | ⟨_, rfl, rfl⟩ | ⟨_, _, h1⟩
    · rcases mem_putk hq with rfl | hq
      · exact ⟨⟨true, [], [], 0⟩, by rw [hlk, if_neg (Ne.symm hjn), if_pos rfl], fun _ => (h.low _ _ hj).2⟩
      · exact hkid x nd q hj hq
    · cases hq
    · exact hkid x n q h1 hq
  · rcases hnew x n hn with ⟨rfl, rfl⟩ | ⟨_, rfl, rfl⟩ | ⟨_, _, h1⟩
    · exact put_nodup (h.names x nd hj) name E.next
    · exact List.nodup_nil
    · exact h.names x n h1
  · show n.kids = [] ∧ n.places = (refs M x : Int)
    rw [hrefs]
    rcases hnew x n hn with ⟨rfl, rfl⟩ | ⟨_, rfl, rfl⟩ | ⟨_, h0, h1⟩
    · rw [show ({ nd with kids := Go.Proofs.YtkhnkidggcjfeaaGreatDoor.put nd.kids name E.next } : ENd).dir = nd.dir from rfl, hnd] at hd; cases hd
    · cases hd
    · obtain ⟨h2, h3⟩ := h.file x n h1 hd
      exact ⟨h2, by rw [if_neg (Ne.symm h0), h3]; simp⟩
  · show refs M x = 1
    rw [hrefs]
    rcases hnew x n hn with ⟨rfl, rfl⟩ | ⟨_, rfl, rfl⟩ | ⟨_, h0, h1⟩
    · rw [if_neg (Ne.symm hjn), h.dirs x nd hj hnd hx1]
    · rw [if_pos rfl, h.freshRefs]
    · rw [if_neg (Ne.symm h0), h.dirs x n h1 hd hx1]
  · show refs M 1 = 0
    rw [hrefs, h.top, if_neg (by omega)]
  · show 1 ≤ x ∧ x < E.next + 1
    rcases hnew x n hn with ⟨rfl, rfl⟩ | ⟨_, rfl, rfl⟩ | ⟨_, _, h1⟩
    · have := h.low x nd hj; omega
    · omega
    · have := h.low x n h1; omega
  · rcases hnew x n hn with ⟨rfl, rfl⟩ | ⟨_, rfl, rfl⟩ | ⟨_, _, h1⟩
    · exact h.small x nd hj
    · exact Nat.zero_le _
    · exact h.small x n h1
  · have h1 := hsum fun n => n.kids.length
    have h2 := hsum0 fun n => n.kids.length
    have h3 := len_put hx E.next
    have h4 := h.ents
    unfold Go.Proofs.YtkhnkidggcjfeaaGreatDoor.ents at h4 ⊢
    simp only [List.length_nil] at h1 h2
    show (M.map _).sum ≤ _
    omega
  · have h1 := hsum fun n => n.data.length
    have h2 := hsum0 fun n => n.data.length
    have h4 := h.sum
    unfold sumE at h4 ⊢
    simp only [List.length_nil] at h1 h2
    show (M.map _).sum ≤ _
    omega
theorem Inv.file0 {E : Et} {B : Nat} (h : Inv E B) {zs : List Int} (hz : zs.length ≤ 3500) : Inv { E with next := E.next + 1, nodes := Go.Proofs.YtkhnkidggcjfeaaGreatDoor.put E.nodes E.next ⟨false, [], zs, 0⟩ } (B + 1) ∧ Go.Proofs.YtkhnkidggcjfeaaGreatDoor.ents (Go.Proofs.YtkhnkidggcjfeaaGreatDoor.put E.nodes E.next ⟨false, [], zs, 0⟩) = Go.Proofs.YtkhnkidggcjfeaaGreatDoor.ents E.nodes := by
  have hfr := h.fresh
  have k1 := put_nodup h.keys E.next (⟨false, [], zs, 0⟩ : ENd)
  have hlk : ∀ x, look (Go.Proofs.YtkhnkidggcjfeaaGreatDoor.put E.nodes E.next ⟨false, [], zs, 0⟩) x = if x = E.next then some ⟨false, [], zs, 0⟩ else look E.nodes x := fun x => by rw [look_put]
  have hsum0 := fun g => sum_new hfr (⟨false, [], zs, 0⟩ : ENd) g
  have hrefs : ∀ x, refs (Go.Proofs.YtkhnkidggcjfeaaGreatDoor.put E.nodes E.next ⟨false, [], zs, 0⟩) x = refs E.nodes x := fun x => by
    have h2 := hsum0 fun n => inK n.kids x
    have h4 : inK [] x = 0 := rfl
    unfold refs
    try simp only at h2
    omega
  have hents : Go.Proofs.YtkhnkidggcjfeaaGreatDoor.ents (Go.Proofs.YtkhnkidggcjfeaaGreatDoor.put E.nodes E.next ⟨false, [], zs, 0⟩) = Go.Proofs.YtkhnkidggcjfeaaGreatDoor.ents E.nodes := by
    have h2 := hsum0 fun n => n.kids.length
    unfold Go.Proofs.YtkhnkidggcjfeaaGreatDoor.ents
    simp only [List.length_nil] at h2
    omega
  have hlen : (Go.Proofs.YtkhnkidggcjfeaaGreatDoor.put E.nodes E.next ⟨false, [], zs, 0⟩).length = E.nodes.length + 1 := by
    rw [put_new (look_none_key hfr)]; simp
  have hfrr := h.freshRefs
  have hfirst := h.first
  generalize hM : Go.Proofs.YtkhnkidggcjfeaaGreatDoor.put E.nodes E.next ⟨false, [], zs, 0⟩ = M at *
  have hold : ∀ x m, look E.nodes x = some m → look M x = some m := fun x m hm => by
    rw [hlk, if_neg (fun e => by rw [e, hfr] at hm; cases hm)]; exact hm
  have hnew : ∀ x n, look M x = some n → (x = E.next ∧ n = ⟨false, [], zs, 0⟩) ∨ (x ≠ E.next ∧ look E.nodes x = some n) := fun x n hn => by
    rw [hlk] at hn
    by_cases e1 : x = E.next
    · rw [if_pos e1] at hn; injection hn with hn; exact .inl ⟨e1, hn.symm⟩
    · rw [if_neg e1] at hn; exact .inr ⟨e1, hn⟩
  refine ⟨⟨k1, ?_, fun x n hn q hq => ?_, fun x n hn => ?_, fun x n hn hd => ?_, fun x n hn hd hx1 => ?_, by show refs M 1 = 0; rw [hrefs, h.top], fun x n hn => ?_, fun x n hn => ?_, by show Go.Proofs.YtkhnkidggcjfeaaGreatDoor.ents M ≤ _; rw [hents]; have := h.ents; omega, by have := h.nx; show E.next + 1 ≤ _; push_cast; omega, ?_, by show M.length ≤ _; have := h.len; omega⟩, hents⟩
  · obtain ⟨n, h1, h2⟩ := h.root
    exact ⟨n, hold _ _ h1, h2⟩
  · rcases hnew x n hn with ⟨rfl, rfl⟩ | ⟨_, h1⟩
    · cases hq
    · obtain ⟨m, h3, h4⟩ := h.kids x n h1 q hq
      exact ⟨m, hold _ _ h3, h4⟩
  · rcases hnew x n hn with ⟨rfl, rfl⟩ | ⟨_, h1⟩
    · exact List.nodup_nil
    · exact h.names x n h1
  · show n.kids = [] ∧ n.places = (refs M x : Int)
    rw [hrefs]
    rcases hnew x n hn with ⟨rfl, rfl⟩ | ⟨_, h1⟩
    · exact ⟨rfl, by rw [hfrr]; rfl⟩
    · exact h.file x n h1 hd
  · show refs M x = 1
    rw [hrefs]
    rcases hnew x n hn with ⟨rfl, rfl⟩ | ⟨_, h1⟩
    · cases hd
    · exact h.dirs x n h1 hd hx1
  · show 1 ≤ x ∧ x < E.next + 1
    rcases hnew x n hn with ⟨rfl, rfl⟩ | ⟨_, h1⟩
    · omega
    · have := h.low x n h1; omega
  · rcases hnew x n hn with ⟨rfl, rfl⟩ | ⟨_, h1⟩
    · exact hz
    · exact h.small x n h1
  · have h2 := hsum0 fun n => n.data.length
    have h4 := h.sum
    unfold sumE at h4 ⊢
    try simp only at h2
    show (M.map _).sum ≤ _
    omega
theorem Inv.create {E : Et} {B : Nat} (h : Inv E B) {j : Int} {nd : ENd} {name : ByteArray} (hj : look E.nodes j = some nd) (hnd : nd.dir = true) (hx : look nd.kids name = none) {zs : List Int} (hz : zs.length ≤ 3500) : Inv (createE E j nd name zs) (B + 1) := by
  obtain ⟨h1, h2⟩ := h.file0 hz
  have hjn : j ≠ E.next := fun e => by rw [e, h.fresh] at hj; cases hj
  have hj2 : look (Go.Proofs.YtkhnkidggcjfeaaGreatDoor.put E.nodes E.next ⟨false, [], zs, 0⟩) j = some nd := by rw [look_put, if_neg hjn]; exact hj
  have hi2 : look (Go.Proofs.YtkhnkidggcjfeaaGreatDoor.put E.nodes E.next (⟨false, [], zs, 0⟩ : ENd)) E.next = some ⟨false, [], zs, 0⟩ := by rw [look_put, if_pos rfl]
  have h3 := h1.put (B' := B + 1) (Nat.le_refl _) (by show Go.Proofs.YtkhnkidggcjfeaaGreatDoor.ents (Go.Proofs.YtkhnkidggcjfeaaGreatDoor.put E.nodes E.next ⟨false, [], zs, 0⟩) + 1 ≤ _; rw [h2]; have := h.ents; omega) hj2 hnd hx hi2 rfl
  have e : putEx { E with next := E.next + 1, nodes := Go.Proofs.YtkhnkidggcjfeaaGreatDoor.put E.nodes E.next ⟨false, [], zs, 0⟩ } j name E.next = createE E j nd name zs := by
    unfold putEx createE
    rw [hj2, hi2]
    simp
  rwa [e] at h3
def rmdirE (E : Et) (j : Int) (nd : ENd) (name : ByteArray) (i : Int) : Et := { E with nodes := del (put E.nodes j { nd with kids := del nd.kids name }) i }
theorem Inv.lone {E : Et} {B : Nat} (h : Inv E B) {j i : Int} {nd f : ENd} {name : ByteArray} (hj : look E.nodes j = some nd) (hx : look nd.kids name = some i) (hi : look E.nodes i = some f) (hf : f.dir = true) : i ≠ 1 ∧ refs (Go.Proofs.YtkhnkidggcjfeaaGreatDoor.put E.nodes j { nd with kids := del nd.kids name }) i = 0 := by
  have h1 : i ≠ 1 := fun e => refs_zero h.top (look_mem hj) (look_mem hx) e
  have h2 := sum_put h.keys hj { nd with kids := del nd.kids name } fun n => inK n.kids i
  have h3 := inK_del (h.names j nd hj) hx i
  have h4 := h.dirs i f hi hf h1
  rw [if_pos rfl] at h3
  unfold refs at h4 ⊢
  try simp only at h2
  exact ⟨h1, by omega⟩
theorem Inv.rm {E : Et} {B : Nat} (h : Inv E B) {j i : Int} {nd f : ENd} {name : ByteArray} (hj : look E.nodes j = some nd) (hx : look nd.kids name = some i) (hi : look E.nodes i = some f) (hf : f.dir = true) (hk : f.kids = []) : Inv (rmdirE E j nd name i) B := by
  obtain ⟨hi1, hlone⟩ := h.lone hj hx hi hf
  have hnd : nd.dir = true := by
    cases hd : nd.dir with
    | true => rfl
    | false => rw [(h.file j nd hj hd).1] at hx; cases hx
  have hij : i ≠ j := fun e => by
    rw [e, hj] at hi
    injection hi with hi
    rw [hi, hk] at hx; cases hx
  have hi2 : look (Go.Proofs.YtkhnkidggcjfeaaGreatDoor.put E.nodes j { nd with kids := del nd.kids name }) i = some f := by rw [look_put, if_neg hij]; exact hi
  have k1 := put_nodup h.keys j { nd with kids := del nd.kids name }
  have k2 : ((del (Go.Proofs.YtkhnkidggcjfeaaGreatDoor.put E.nodes j { nd with kids := del nd.kids name }) i).map (·.1)).Nodup := k1.sublist ((del_sub _ i).map _)
  have hlk : ∀ x, look (del (Go.Proofs.YtkhnkidggcjfeaaGreatDoor.put E.nodes j { nd with kids := del nd.kids name }) i) x = if x = i then none else if x = j then some { nd with kids := del nd.kids name } else look E.nodes x := fun x => by
    by_cases e : x = i
    · rw [if_pos e, e, look_del_same k1]
    · rw [if_neg e, look_del_ne e, look_put]
  have hsum := fun g => sum_del k1 hi2 g
  have hsum0 := fun g => sum_put h.keys hj { nd with kids := del nd.kids name } g
  have hnm := h.names j nd hj
  have hrefs : ∀ x, refs (del (Go.Proofs.YtkhnkidggcjfeaaGreatDoor.put E.nodes j { nd with kids := del nd.kids name }) i) x + (if i = x then 1 else 0) = refs E.nodes x := fun x => by
    have h1 := hsum fun n => inK n.kids x
    have h2 := hsum0 fun n => inK n.kids x
    have h3 := inK_del hnm hx x
    have h5 : inK f.kids x = 0 := by rw [hk]; rfl
    unfold refs
    try simp only at h1 h2
    omega
  have hrefs0 : refs (del (Go.Proofs.YtkhnkidggcjfeaaGreatDoor.put E.nodes j { nd with kids := del nd.kids name }) i) i = 0 := by
    have h1 := hsum fun n => inK n.kids i
    unfold refs at hlone ⊢
    try simp only at h1
    omega
  have hlen := (del_sub (Go.Proofs.YtkhnkidggcjfeaaGreatDoor.put E.nodes j { nd with kids := del nd.kids name }) i).length_le
  rw [nodes_len_put hj] at hlen
  show Inv { E with nodes := del (Go.Proofs.YtkhnkidggcjfeaaGreatDoor.put E.nodes j { nd with kids := del nd.kids name }) i } B
  generalize hM : del (Go.Proofs.YtkhnkidggcjfeaaGreatDoor.put E.nodes j { nd with kids := del nd.kids name }) i = M at *
  have hold : ∀ x m, x ≠ i → look E.nodes x = some m → ∃ m', look M x = some m' ∧ m'.dir = m.dir := fun x m hxi hm => by
    rw [hlk, if_neg hxi]
    by_cases e1 : x = j
    · rw [if_pos e1]; rw [e1, hj] at hm; injection hm with hm; exact ⟨_, rfl, by rw [← hm]⟩
    · rw [if_neg e1]; exact ⟨m, hm, rfl⟩
  have hnew : ∀ x n, look M x = some n → x ≠ i ∧ ((x = j ∧ n = { nd with kids := del nd.kids name }) ∨ (x ≠ j ∧ look E.nodes x = some n)) := fun x n hn => by
    rw [hlk] at hn
    by_cases e0 : x = i
    · rw [if_pos e0] at hn; cases hn
    · rw [if_neg e0] at hn
      refine ⟨e0, ?_⟩
      by_cases e1 : x = j
      · rw [if_pos e1] at hn; injection hn with hn; exact .inl ⟨e1, hn.symm⟩
      · rw [if_neg e1] at hn; exact .inr ⟨e1, hn⟩
  have hsub : ∀ x n, look M x = some n → ∃ n0, look E.nodes x = some n0 ∧ n0.dir = n.dir ∧ (∀ q ∈ n.kids, q ∈ n0.kids) ∧ n0.places = n.places ∧ n0.data = n.data ∧ (n0.kids = [] → n.kids = []) := fun x n hn => by
    obtain ⟨_, ⟨rfl, rfl⟩ | ⟨_, h1⟩⟩ := hnew x n hn
    · exact ⟨nd, hj, rfl, fun q hq => mem_delk hq, rfl, rfl, fun e => by show del nd.kids name = []; rw [e]; rfl⟩
    · exact ⟨n, h1, rfl, fun q hq => hq, rfl, rfl, fun e => e⟩
  have hne : ∀ x n, look M x = some n → ∀ q ∈ n.kids, q.2 ≠ i := fun x n hn q hq => refs_zero hrefs0 (look_mem hn) hq
  refine ⟨k2, ?_, fun x n hn q hq => ?_, fun x n hn => ?_, fun x n hn hd => ?_, fun x n hn hd hx1 => ?_, ?_, fun x n hn => ?_, fun x n hn => ?_, ?_, h.nx, ?_, by show M.length ≤ _; have := h.len; omega⟩
  · obtain ⟨n, h1, h2⟩ := h.root
    obtain ⟨m', h3, h4⟩ := hold _ _ (Ne.symm hi1) h1
    exact ⟨m', h3, h4.trans h2⟩
  · obtain ⟨n0, h1, _, h3, _⟩ := hsub x n hn
    obtain ⟨m, h4, h5⟩ := h.kids x n0 h1 q (h3 q hq)
    obtain ⟨m', h6, h7⟩ := hold _ _ (hne x n hn q hq) h4
    exact ⟨m', h6, fun hd => h5 (h7 ▸ hd)⟩
  · obtain ⟨_, ⟨rfl, rfl⟩ | ⟨_, h1⟩⟩ := hnew x n hn
    · exact hnm.sublist ((del_sub nd.kids name).map _)
    · exact h.names x n h1
  · show n.kids = [] ∧ n.places = (refs M x : Int)
    obtain ⟨n0, h1, h2, _, h4, _, h6⟩ := hsub x n hn
    obtain ⟨g1, g2⟩ := h.file x n0 h1 (h2.trans hd)
    have hr := hrefs x
    rw [if_neg (Ne.symm (hnew x n hn).1)] at hr
    exact ⟨h6 g1, by rw [← h4, g2, ← hr]; simp⟩
  · show refs M x = 1
    obtain ⟨n0, h1, h2, _⟩ := hsub x n hn
    have hr := hrefs x
    rw [if_neg (Ne.symm (hnew x n hn).1), h.dirs x n0 h1 (h2.trans hd) hx1] at hr
    exact hr
  · show refs M 1 = 0
    have := hrefs 1
    rw [h.top] at this
    omega
  · obtain ⟨n0, h1, _⟩ := hsub x n hn
    exact h.low x n0 h1
  · obtain ⟨n0, h1, _, _, _, h5, _⟩ := hsub x n hn
    rw [← h5]; exact h.small x n0 h1
  · have h1 := hsum fun n => n.kids.length
    have h2 := hsum0 fun n => n.kids.length
    have h3 := (del_sub nd.kids name).length_le
    have h4 := h.ents
    unfold Go.Proofs.YtkhnkidggcjfeaaGreatDoor.ents at h4 ⊢
    try simp only at h1 h2
    show (M.map _).sum ≤ _
    omega
  · have h1 := hsum fun n => n.data.length
    have h2 := hsum0 fun n => n.data.length
    have h4 := h.sum
    unfold sumE at h4 ⊢
    try simp only at h1 h2
    show (M.map _).sum ≤ _
    omega
end Go.Proofs.YtkhnkidggcjfeaaGreatDoor
end
section
namespace Go.Proofs.YtkhnkidggcjfeaaGreatDoor
open Go.RowKit
open Go.ChangeMaps (setBlock)
def stepE (E : Et) (o : OpE) : Int × Et :=
  if o.kind < 0 ∨ 6 < o.kind then (1, E) else
  match placeE E o.l with
  | (c, none) => (c, E)
  | (_, some (j, nd, z)) =>
    if 3500 < o.zs.length then (6, E) else
    match look nd.kids (toB z) with
    | none => if o.kind = 0 then (0, mkdirE E j nd (toB z)) else if o.kind = 2 then (0, createE E j nd (toB z) o.zs) else (8, E)
    | some i =>
      if o.kind = 0 ∨ o.kind = 2 then (9, E) else
      match look E.nodes i with
      | none => (0, E)
      | some f =>
        if o.kind = 1 then (if f.dir = true then (if f.kids.isEmpty = true then (0, rmdirE E j nd (toB z) i) else (12, E)) else (11, E))
        else if f.dir = true then (10, E)
        else if o.kind = 3 then (0, { E with nodes := put E.nodes i { f with data := o.zs } })
        else if o.kind = 6 then (0, takeEx E j (toB z))
        else match placeE E o.l2 with
          | (c, none) => (c, E)
          | (_, some (jb, ndb, zb)) => match look ndb.kids (toB zb) with
            | none => if o.kind = 4 then (0, putEx E jb (toB zb) i) else (0, putEx (takeEx E j (toB z)) jb (toB zb) i)
            | some old => if o.kind = 4 then (9, E) else match look E.nodes old with
              | none => (0, E)
              | some fo => if fo.dir = true then (10, E) else if old = i then (0, E) else (0, putEx (takeEx (takeEx E jb (toB zb)) j (toB z)) jb (toB zb) i)
theorem placeE_bad {E : Et} {l : List UInt8} {c : Int} (h : placeE E l = (c, none)) : c = 14 ∨ c = 8 ∨ c = 11 := by
  unfold placeE at h
  repeat' split at h
  all_goals first
    | (injection h with h _; subst h; decide)
    | (injection h with _ h; cases h)
theorem placeE_good {E : Et} {l : List UInt8} {c j : Int} {nd : ENd} {z : List UInt8} (h : placeE E l = (c, some (j, nd, z))) : c = 0 ∧ look E.nodes j = some nd ∧ nd.dir = true := by
  unfold placeE at h
  repeat' split at h
  all_goals first
    | (injection h with _ h; cases h; done)
    | skip
  rename_i h1 _ _ h2 h3
  injection h with e1 e2
  injection e2 with e2
  injection e2 with e2 e3
  injection e3 with e3 e4
  subst e1 e2 e3
  exact ⟨rfl, h2, h3⟩
theorem Rep.place_bad {T : Tr} {E : Et} (h : Rep T E) (hd : (T.nodes.map (·.1)).Nodup) {l : List UInt8} {c : Int} (hp : placeE E l = (c, none)) : placeT T l = (c, none) := by
  unfold placeE at hp
  unfold placeT
  cases h1 : (namesL l).getLast? with
  | none =>
    rw [h1] at hp
    have hp' : ((14 : Int), (none : Option (Int × ENd × List UInt8))) = (c, none) := hp
    obtain ⟨rfl, _⟩ := Prod.mk.inj hp'
    rfl
  | some z2 =>
    rw [h1] at hp
    rw [h.walk hd]
    simp only at hp ⊢
    cases h2 : walkE E 1 (namesL l).dropLast with
    | none => rw [h2] at hp; simpa using hp
    | some j2 =>
      rw [h2] at hp
      simp only at hp ⊢
      have hl := h.look hd j2
      cases h3 : Go.Proofs.YtkhnkidggcjfeaaGreatDoor.look T.nodes j2 with
      | none => rw [h3] at hl; rw [← hl] at hp; simpa using hp
      | some nd =>
        rw [h3] at hl
        rw [← hl] at hp
        simp only [Option.map_some] at hp ⊢
        have e : nd.er.dir = nd.k.isSome := rfl
        rw [e] at hp
        cases h4 : nd.k with
        | none => rw [h4] at hp; simpa using hp
        | some k => rw [h4] at hp; simp at hp
theorem Rep.rm {T : Tr} {E : Et} (h : Rep T E) (hd : (T.nodes.map (·.1)).Nodup) (j : Int) (nd : Nd) (name : ByteArray) (i : Int) : Rep (rmT T j nd name i) (rmdirE E j nd.er name i) := by
  have h2 := h.setN hd j { nd with kids := del nd.kids name }
  have k2 := setN_nodup hd j { nd with kids := del nd.kids name }
  refine ⟨h.quota, h.next, ?_⟩
  show (erL (del (T.setN j { nd with kids := del nd.kids name }).nodes i)).Perm _
  have e : erL (del (T.setN j { nd with kids := del nd.kids name }).nodes i) = del (erL (T.setN j { nd with kids := del nd.kids name }).nodes) i := del_map Nd.er _ i
  rw [e]
  exact del_perm h2.nodes (by rw [erL_keys]; exact k2) i
theorem Rep.node {T : Tr} {E : Et} (h : Rep T E) (hd : (T.nodes.map (·.1)).Nodup) {i : Int} {ef : ENd} (he : Go.Proofs.YtkhnkidggcjfeaaGreatDoor.look E.nodes i = some ef) : ∃ f, Go.Proofs.YtkhnkidggcjfeaaGreatDoor.look T.nodes i = some f ∧ f.er = ef := by
  have hl := h.look hd i
  rw [he] at hl
  cases hf : Go.Proofs.YtkhnkidggcjfeaaGreatDoor.look T.nodes i with
  | none => rw [hf] at hl; cases hl
  | some f => rw [hf] at hl; injection hl with hl; exact ⟨f, rfl, hl⟩
theorem stepE_inv {E : Et} {B : Nat} (h : Inv E B) (o : OpE) : Inv (stepE E o).2 (B + 1) := by
  have hs := h.mono (Nat.le_succ B)
  unfold stepE
  split
  · exact hs
  split
  · exact hs
  rename_i c j nd z hp
  obtain ⟨_, hj, hnd⟩ := placeE_good hp
  split
  · exact hs
  rename_i hlen
  have hz : o.zs.length ≤ 3500 := by omega
  split
  · rename_i hx
    split
    · exact h.mkdir hj hnd hx
    · split
      · exact h.create hj hnd hx hz
      · exact hs
  · rename_i i hx
    split
    · exact hs
    split
    · exact hs
    rename_i f hi
    split
    · split
      · rename_i hf
        split
        · rename_i hk
          exact (h.rm hj hx hi hf (List.isEmpty_iff.1 hk)).mono (Nat.le_succ B)
        · exact hs
      · exact hs
    split
    · exact hs
    rename_i hf
    have hf2 : f.dir = false := by simpa using hf
    split
    · exact h.write hi hf2 hz
    split
    · exact (h.take hj hx hi hf2).mono (Nat.le_succ B)
    split
    · exact hs
    rename_i c2 jb ndb zb hp2
    obtain ⟨_, hjb, hndb⟩ := placeE_good hp2
    have htk : ∀ {a : Int} {n : ENd}, look E.nodes a = some n → n.dir = true → ∃ n', look (takeEx E j (toB z)).nodes a = some n' ∧ n'.dir = true ∧ (∀ s, look n.kids s = none → look n'.kids s = none) := fun {a n} ha hn => by
      unfold takeEx
      simp only [hj, hx, hi]
      rw [look_put, look_put]
      by_cases e1 : a = j
      · rw [if_pos e1]
        rw [e1, hj] at ha; injection ha with ha
        refine ⟨_, rfl, by rw [← ha] at hn; exact hn, fun s hs => ?_⟩
        show look (del nd.kids (toB z)) s = none
        rw [← ha] at hs
        by_cases e : s = toB z
        · rw [e]; exact look_del_same (h.names j nd hj) _
        · rw [look_del_ne e]; exact hs
      · rw [if_neg e1]
        by_cases e2 : a = i
        · rw [e2, hi] at ha; injection ha with ha; rw [← ha, hf2] at hn; cases hn
        · rw [if_neg e2]; exact ⟨n, ha, hn, fun s hs => hs⟩
    have hti : look (takeEx E j (toB z)).nodes i = some { f with places := f.places - 1 } := by
      have hij : i ≠ j := fun e => by rw [e, hj] at hi; injection hi with hi; rw [hi, hf2] at hnd; cases hnd
      unfold takeEx
      simp only [hj, hx, hi]
      rw [look_put, look_put, if_neg hij, if_pos rfl]
    split
    · rename_i hxb
      split
      · exact h.put (Nat.le_succ B) (by have := h.ents; omega) hjb hndb hxb hi hf2
      · have h2 := h.take hj hx hi hf2
        obtain ⟨n', g1, g2, g3⟩ := htk hjb hndb
        exact h2.put (Nat.le_succ B) (by have := h2.ents; omega) g1 g2 (g3 _ hxb) hti hf2
    · rename_i old hxb
      split
      · exact hs
      split
      · exact hs
      rename_i fo ho
      split
      · exact hs
      rename_i hfo
      have hfo2 : fo.dir = false := by simpa using hfo
      split
      · exact hs
      rename_i hne
      -- over another file
      have h1 := h.take hjb hxb ho hfo2
      have hlk1 : ∀ a, look (takeEx E jb (toB zb)).nodes a = if a = jb then some { ndb with kids := del ndb.kids (toB zb) } else if a = old then some { fo with places := fo.places - 1 } else look E.nodes a := fun a => by
        unfold takeEx
        simp only [hjb, hxb, ho]
        rw [look_put, look_put]
      have hij : i ≠ j := fun e => by rw [e, hj] at hi; injection hi with hi; rw [hi, hf2] at hnd; cases hnd
      have hijb : i ≠ jb := fun e => by rw [e, hjb] at hi; injection hi with hi; rw [hi, hf2] at hndb; cases hndb
      have hoj : old ≠ j := fun e => by rw [e, hj] at ho; injection ho with ho; rw [ho, hfo2] at hnd; cases hnd
      have hi1 : look (takeEx E jb (toB zb)).nodes i = some f := by rw [hlk1, if_neg hijb, if_neg (Ne.symm hne)]; exact hi
      obtain ⟨nd1, g1, g2, g3⟩ : ∃ nd1, look (takeEx E jb (toB zb)).nodes j = some nd1 ∧ nd1.dir = true ∧ look nd1.kids (toB z) = some i := by
        rw [hlk1]
        by_cases e : j = jb
        · rw [if_pos e]
          have e2 : ndb = nd := by rw [e, hjb] at hj; injection hj
          refine ⟨_, rfl, hndb, ?_⟩
          show look (del ndb.kids (toB zb)) (toB z) = some i
          have e3 : toB z ≠ toB zb := fun e3 => by rw [e2, ← e3, hx] at hxb; injection hxb with hxb; exact hne hxb.symm
          rw [look_del_ne e3, e2]; exact hx
        · rw [if_neg e, if_neg (Ne.symm hoj)]; exact ⟨nd, hj, hnd, hx⟩
      have h2 := h1.take g1 g3 hi1 hf2
      have hlk2 : ∀ a, look (takeEx (takeEx E jb (toB zb)) j (toB z)).nodes a = if a = j then some { nd1 with kids := del nd1.kids (toB z) } else if a = i then some { f with places := f.places - 1 } else look (takeEx E jb (toB zb)).nodes a := fun a => by
        have : takeEx (takeEx E jb (toB zb)) j (toB z) = { takeEx E jb (toB zb) with nodes := Go.Proofs.YtkhnkidggcjfeaaGreatDoor.put (Go.Proofs.YtkhnkidggcjfeaaGreatDoor.put (takeEx E jb (toB zb)).nodes i { f with places := f.places - 1 }) j { nd1 with kids := del nd1.kids (toB z) } } := by
          generalize takeEx E jb (toB zb) = E1 at *
          unfold takeEx
          simp only [g1, g3, hi1]
        rw [this]
        show look (Go.Proofs.YtkhnkidggcjfeaaGreatDoor.put (Go.Proofs.YtkhnkidggcjfeaaGreatDoor.put (takeEx E jb (toB zb)).nodes i { f with places := f.places - 1 }) j { nd1 with kids := del nd1.kids (toB z) }) a = _
        rw [look_put, look_put]
      have hti2 : look (takeEx (takeEx E jb (toB zb)) j (toB z)).nodes i = some { f with places := f.places - 1 } := by rw [hlk2, if_neg hij, if_pos rfl]
      have hnmb := h.names jb ndb hjb
      obtain ⟨ndb2, k1, k2, k3⟩ : ∃ n, look (takeEx (takeEx E jb (toB zb)) j (toB z)).nodes jb = some n ∧ n.dir = true ∧ look n.kids (toB zb) = none := by
        rw [hlk2]
        by_cases e : jb = j
        · rw [if_pos e]
          refine ⟨_, rfl, g2, ?_⟩
          show look (del nd1.kids (toB z)) (toB zb) = none
          have e1 : nd1 = { ndb with kids := del ndb.kids (toB zb) } := by
            have := g1
            rw [hlk1, if_pos e.symm] at this
            injection this with this
            exact this.symm
          have e4 : look nd1.kids (toB zb) = none := by rw [e1]; exact look_del_same hnmb _
          by_cases e3 : toB zb = toB z
          · rw [e3]; exact look_del_same (h1.names j nd1 g1) _
          · rw [look_del_ne e3]; exact e4
        · rw [if_neg e, if_neg (Ne.symm hijb), hlk1, if_pos rfl]
          exact ⟨_, rfl, hndb, look_del_same hnmb _⟩
      exact h2.put (Nat.le_succ B) (by have := h2.ents; omega) k1 k2 k3 hti2 hf2
set_option maxHeartbeats 2000000 in
theorem do_total {w0 w : World} {S : Blocks} {L : List Rw} {t : Nat} {T : Tr} {E : Et} {B : Nat} (hO : Own ⟨w0, S⟩ w L) (H : Tree S (Pc L) t T) (hR : Rep T E) (I : Inv E B) (hB : B ≤ 100000000) (hm : Mx w) (κ : Int) (p q : ByteArray) (hp : p.size ≤ maxLen) (hq : q.size ≤ maxLen) {va : Option Addr} {vc : Nat} {zs : List Int} (hv : Byo w0 S (t :: T.foot) L (.slice va zs.length vc) zs) {c0 : Int} {E' : Et} (hE : stepE E ⟨κ, p.data.toList, q.data.toList, zs⟩ = (c0, E')) :
    Calls Tryz.prog 59 #[.pointer (some ⟨t, 0, none⟩), .agg (opL κ p q (.slice va zs.length vc)).toArray] w (DoL w0 S L t T w (fun T' => Rep T' E') (.int .i64 c0)) := by
  have hd := H.good.keys
  have hsame : ∀ {T' : Tr}, T' = T → Rep T' E := fun e => by rw [e]; exact hR
  have hn1 : 2 ≤ T.next := by have := I.first; rw [hR.next]; omega
  have hn2 : T.next ≤ 1000000000 := by have := I.nx; rw [hR.next]; omega
  have hfl : ∀ {i : Int} {ef : ENd}, look E.nodes i = some ef → ef.dir = false → ∃ f, Fl T i f ∧ f.er = ef := fun {i ef} h1 h2 => by
    have h3 := (I.file i ef h1 h2).2
    have h4 := refs_le E.nodes i
    have h5 := I.ents
    exact hR.file hd h1 h2 (by omega) (by omega)
  unfold stepE at hE
  simp only at hE
  split at hE
  · rename_i hk
    obtain ⟨rfl, rfl⟩ := Prod.mk.inj hE
    exact (do_kind hO H κ hk p q).mono fun e w2 hd2 => hd2.imp fun T' e1 => hsame e1
  rename_i hk
  have k0 : ¬ κ < 0 := fun h => hk (.inl h)
  have k6 : ¬ 6 < κ := fun h => hk (.inr h)
  split at hE
  · rename_i c1 hpl
    have hc := hR.place_bad hd hpl
    obtain ⟨rfl, rfl⟩ := Prod.mk.inj hE
    refine (do_bad hO H hm κ k0 k6 p q hp hc ?_).mono fun e w2 hd2 => hd2.imp fun T' e1 => hsame e1
    rcases placeE_bad hpl with rfl | rfl | rfl <;> rfl
  rename_i c9 j en z hpl
  obtain ⟨rfl, hje, hen⟩ := placeE_good hpl
  obtain ⟨nd, k, hc, ha, her⟩ := hR.place hd hpl
  have hkids : nd.kids = en.kids := congrArg ENd.kids her
  split at hE
  · rename_i hlen
    obtain ⟨rfl, rfl⟩ := Prod.mk.inj hE
    exact (do_long hO H hm κ k0 k6 p q hp (by exact_mod_cast hlen) hc ha).mono fun e w2 hd2 => hd2.imp fun T' e1 => hsame e1
  rename_i hlen0
  have hlen : zs.length ≤ 3500 := by omega
  have hlenI : ¬ (3500 : Int) < (zs.length : Int) := by omega
  have hl2 : zs.length ≤ 140737488355328 := by omega
  split at hE
  · rename_i hx
    rw [← hkids] at hx
    split at hE
    · rename_i h0
      subst h0
      obtain ⟨rfl, rfl⟩ := Prod.mk.inj hE
      exact do_grow0 hO H hm p q hp hlen hc ha hx fun S' w' h1 h2 _ _ => (growDir_any h1 h2 ha.there ha.dir (toB z) p q _ ⟨_, _, _, rfl⟩ hn1 hn2).mono fun e w2 hd2 => hd2.imp fun T' ⟨n, e1, e2⟩ => by
        rw [e2, ← her]; exact hR.mkdir hd (toB z) e1
    · rename_i k00
      split at hE
      · rename_i h0
        subst h0
        obtain ⟨rfl, rfl⟩ := Prod.mk.inj hE
        exact do_grow2 hO H hm p q hp hlen hc ha hx fun S' w' h1 h2 hss _ => (growFile_any h1 h2 ha.there ha.dir (toB z) p q _ zs (hv.mono hss (fun _ _ _ h => h) (fun _ h => h)) hl2 hn1 hn2).mono fun e w2 hd2 => hd2.imp fun T' ⟨n, e1, e2⟩ => by
          rw [e2, ← her]; exact hR.create hd (toB z) e1
      · rename_i k02
        obtain ⟨rfl, rfl⟩ := Prod.mk.inj hE
        exact (do_none hO H hm κ k0 k6 (by simpa using k00) (by simpa using k02) p q hp hlenI hc ha hx).mono fun e w2 hd2 => hd2.imp fun T' e1 => hsame e1
  · rename_i i hx
    have hxe := hx
    rw [← hkids] at hx
    split at hE
    · rename_i h02
      obtain ⟨rfl, rfl⟩ := Prod.mk.inj hE
      exact (do_twice hO H hm κ h02 p q hp hlenI hc ha hx).mono fun e w2 hd2 => hd2.imp fun T' e1 => hsame e1
    rename_i h02
    have k00 : (κ == 0) = false := by simpa using fun h => h02 (.inl h)
    have k02 : (κ == 2) = false := by simpa using fun h => h02 (.inr h)
    split at hE
    · rename_i hef
      obtain ⟨m, hm1, _⟩ := I.kids j en hje _ (look_mem hxe)
      rw [hef] at hm1; cases hm1
    rename_i ef hef
    obtain ⟨f, hfi, hfe⟩ := hR.node hd hef
    split at hE
    · rename_i h1
      subst h1
      split at hE
      · rename_i hdir
        have hfk : f.k.isSome = true := (congrArg ENd.dir hfe).trans hdir
        obtain ⟨kf, hkf⟩ := Option.isSome_iff_exists.1 hfk
        have hfkids : f.kids = ef.kids := congrArg ENd.kids hfe
        split at hE
        · rename_i hemp
          have hke := List.isEmpty_iff.1 hemp
          obtain ⟨hi1, hlone⟩ := I.lone hje hxe hef hdir
          have hno : ∀ x ∈ (T.setN j { nd with kids := del nd.kids (toB z) }).nodes, ∀ y ∈ x.2.kids, y.2 ≠ i := fun x hx y hy => by
            have h3 := (hR.setN hd j { nd with kids := del nd.kids (toB z) }).nodes.subset (er_mem hx)
            rw [show ({ nd with kids := del nd.kids (toB z) } : Nd).er = { en with kids := del en.kids (toB z) } by unfold Nd.er at her ⊢; rw [← her]] at h3
            exact refs_zero hlone h3 hy
          obtain ⟨rfl, rfl⟩ := Prod.mk.inj hE
          exact do_rm hO H hm p q hp hlenI hc ha hx fun S' w' h1 h2 => (rmdir_ok h1 h2 ha (toB z) hfi hkf (hfkids.trans hke) hi1 hno).mono fun e w2 hd2 => hd2.imp fun T' e1 => by
            rw [e1, ← her]; exact hR.rm hd j nd (toB z) i
        · rename_i hemp
          have hpos : 0 < f.kids.length := by
            rw [hfkids]
            exact List.length_pos_iff.2 fun e => hemp (by rw [e]; rfl)
          obtain ⟨rfl, rfl⟩ := Prod.mk.inj hE
          exact (do_rm hO H hm p q hp hlenI hc ha hx fun S' w' h1 h2 => rmdir_busy h1 h2 (toB z) hfi hkf hpos).mono fun e w2 hd2 => hd2.imp fun T' e1 => hsame e1
      · rename_i hdir
        have hfk : f.k = none := by
          have : f.k.isSome = ef.dir := congrArg ENd.dir hfe
          cases hk2 : f.k with
          | none => rfl
          | some k => rw [hk2] at this; exact absurd this.symm hdir
        obtain ⟨rfl, rfl⟩ := Prod.mk.inj hE
        exact (do_rm hO H hm p q hp hlenI hc ha hx fun S' w' h1 h2 => rmdir_file h1 h2 (toB z) hfi hfk).mono fun e w2 hd2 => hd2.imp fun T' e1 => hsame e1
    rename_i k01
    have k01 : (κ == 1) = false := by simpa using k01
    split at hE
    · rename_i hdir
      obtain ⟨rfl, rfl⟩ := Prod.mk.inj hE
      exact (do_isdir hO H hm κ k0 k6 k00 k01 k02 p q hp hlenI hc ha hx hfi ((congrArg ENd.dir hfe).trans hdir)).mono fun e w2 hd2 => hd2.imp fun T' e1 => hsame e1
    rename_i hdir
    have hdir2 : ef.dir = false := by simpa using hdir
    obtain ⟨f', g, hfe'⟩ := hfl hef hdir2
    have hff : f' = f := by have := g.there; rw [hfi] at this; injection this with this; exact this.symm
    subst hff
    have hp1 : 1 ≤ f'.places := by
      have h1 : f'.places = ef.places := congrArg ENd.places hfe
      have h2 := (I.file i ef hef hdir2).2
      have h3 := refs_pos (look_mem hje) (look_mem hxe)
      rw [h1, h2]; exact_mod_cast h3
    split at hE
    · rename_i h0
      subst h0
      obtain ⟨rfl, rfl⟩ := Prod.mk.inj hE
      exact do_turn3 hO H hm p q hp hlen hc ha hx g fun S' w' h1 h2 hss _ => (turn_write h1 h2 g p q _ zs (hv.mono hss (fun _ _ _ h => h) (fun _ h => h)) hl2).mono fun e w2 hd2 => hd2.imp fun T' ⟨f2, e1, e2⟩ => by
        rw [e2]; exact hR.write hd i (by rw [e1, hfe])
    rename_i k03
    split at hE
    · rename_i h0
      subst h0
      obtain ⟨rfl, rfl⟩ := Prod.mk.inj hE
      exact do_turn6 hO H hm p q hp hlen hc ha hx g fun S' w' h1 h2 _ _ => (turn_unlink h1 h2 ha hx g p q _ ⟨_, _, _, rfl⟩).mono fun e w2 hd2 => hd2.imp fun T' e1 => by
        rw [e1]; exact hR.take hd j (toB z)
    rename_i k06
    have h45 : κ = 4 ∨ κ = 5 := by
      simp only [beq_eq_false_iff_ne] at k00 k01 k02
      omega
    split at hE
    · rename_i c2 hpl2
      have hc2 := hR.place_bad hd hpl2
      have hc20 : (c2 != 0) = true := by rcases placeE_bad hpl2 with rfl | rfl | rfl <;> rfl
      rcases h45 with rfl | rfl
      · obtain ⟨rfl, rfl⟩ := Prod.mk.inj hE
        exact (do_turn4 hO H hm p q hp hlen hc ha hx g fun S' w' h1 h2 _ hm2 => turn_bad h1 h2 hm2 (.inl rfl) p q hq _ ⟨_, _, _, rfl⟩ hc2 hc20).mono fun e w2 hd2 => hd2.imp fun T' e1 => hsame e1
      · obtain ⟨rfl, rfl⟩ := Prod.mk.inj hE
        exact (do_turn5 hO H hm p q hp hlen hc ha hx g fun S' w' h1 h2 _ hm2 => turn_bad h1 h2 hm2 (.inr rfl) p q hq _ ⟨_, _, _, rfl⟩ hc2 hc20).mono fun e w2 hd2 => hd2.imp fun T' e1 => hsame e1
    rename_i c2 jb enb zb hplb
    obtain ⟨rfl, hjbe, henb⟩ := placeE_good hplb
    obtain ⟨ndb, kb, hcb, hab, herb⟩ := hR.place hd hplb
    have hkidsb : ndb.kids = enb.kids := congrArg ENd.kids herb
    split at hE
    · rename_i hxb
      rw [← hkidsb] at hxb
      split at hE
      · rename_i h0
        subst h0
        obtain ⟨rfl, rfl⟩ := Prod.mk.inj hE
        exact do_turn4 hO H hm p q hp hlen hc ha hx g fun S' w' h1 h2 _ hm2 => (turn_link h1 h2 hm2 p q hq _ ⟨_, _, _, rfl⟩ hcb fun S3 w3 h3 h4 => link_ok h3 h4 hab.there hab.dir (toB zb) hxb g.there g.file g.low g.high).mono fun e w2 hd2 => hd2.imp fun T' e1 => by
          rw [e1, ← putTx_of (toB zb) hab.there g.there]; exact hR.put hd jb (toB zb) i
      · rename_i h0
        obtain rfl : κ = 5 := h45.resolve_left h0
        obtain ⟨rfl, rfl⟩ := Prod.mk.inj hE
        exact do_turn5 hO H hm p q hp hlen hc ha hx g fun S' w' h1 h2 _ hm2 => (turn_rename h1 h2 hm2 p q hq _ ⟨_, _, _, rfl⟩ hcb fun S3 w3 h3 h4 => rename_free h3 h4 ha hab hx g hp1 hxb).mono fun e w2 hd2 => hd2.imp fun T' e1 => by
          rw [e1]; exact (hR.take hd j (toB z)).put (takeTx_nodup hd j (toB z)) jb (toB zb) i
    · rename_i old hxb
      have hxbe := hxb
      rw [← hkidsb] at hxb
      split at hE
      · rename_i h0
        subst h0
        obtain ⟨rfl, rfl⟩ := Prod.mk.inj hE
        exact (do_turn4 hO H hm p q hp hlen hc ha hx g fun S' w' h1 h2 _ hm2 => turn_link h1 h2 hm2 p q hq _ ⟨_, _, _, rfl⟩ hcb fun S3 w3 h3 h4 => link_twice h3 h4 hab.there hab.dir (toB zb) i hxb).mono fun e w2 hd2 => hd2.imp fun T' e1 => hsame e1
      rename_i h0
      obtain rfl : κ = 5 := h45.resolve_left h0
      split at hE
      · rename_i hefo
        obtain ⟨m, hm1, _⟩ := I.kids jb enb hjbe _ (look_mem hxbe)
        rw [hefo] at hm1; cases hm1
      rename_i efo hefo
      obtain ⟨fo, hfoi, hfoe⟩ := hR.node hd hefo
      split at hE
      · rename_i hdo
        obtain ⟨rfl, rfl⟩ := Prod.mk.inj hE
        exact (do_turn5 hO H hm p q hp hlen hc ha hx g fun S' w' h1 h2 _ hm2 => turn_rename h1 h2 hm2 p q hq _ ⟨_, _, _, rfl⟩ hcb fun S3 w3 h3 h4 => rename_still h3 h4 hab hxb hfoi (.inl ⟨(congrArg ENd.dir hfoe).trans hdo, rfl⟩)).mono fun e w2 hd2 => hd2.imp fun T' e1 => hsame e1
      rename_i hdo
      have hdo2 : efo.dir = false := by simpa using hdo
      obtain ⟨fo', go, hfoe'⟩ := hfl hefo hdo2
      split at hE
      · rename_i heq
        obtain ⟨rfl, rfl⟩ := Prod.mk.inj hE
        exact (do_turn5 hO H hm p q hp hlen hc ha hx g fun S' w' h1 h2 _ hm2 => turn_rename h1 h2 hm2 p q hq _ ⟨_, _, _, rfl⟩ hcb fun S3 w3 h3 h4 => rename_still h3 h4 hab hxb go.there (.inr ⟨by rw [go.file]; rfl, heq, rfl⟩)).mono fun e w2 hd2 => hd2.imp fun T' e1 => hsame e1
      · rename_i hne
        obtain ⟨rfl, rfl⟩ := Prod.mk.inj hE
        exact do_turn5 hO H hm p q hp hlen hc ha hx g fun S' w' h1 h2 _ hm2 => (turn_rename h1 h2 hm2 p q hq _ ⟨_, _, _, rfl⟩ hcb fun S3 w3 h3 h4 => rename_over h3 h4 ha hab hx g hp1 hxb go hne).mono fun e w2 hd2 => hd2.imp fun T' e1 => by
          rw [e1]; exact ((hR.take hd jb (toB zb)).take (takeTx_nodup hd jb (toB zb)) j (toB z)).put (takeTx_nodup (takeTx_nodup hd jb (toB zb)) j (toB z)) jb (toB zb) i
end Go.Proofs.YtkhnkidggcjfeaaGreatDoor
end
section
namespace Go.Proofs.YtkhnkidggcjfeaaGreatDoor
open Go.RowKit
open Go.ChangeMaps (setBlock)
theorem over_full {w : World} {D : Value → List Int → Prop} {t : Nat} {T : Tr} (H : TreeIn (inW w) D t T) (h1 : 128 < T.nodes.length) :
    Calls Tryz.prog 60 #[.pointer (some ⟨t, 0, none⟩)] w fun e w' => e = .returned (.int .i64 7) ∧ Below w.heap.size w w' := by
  have hn := nodes_any H
  have b1 : (128 < (T.nodes.length : Int)) := by omega
  clear H h1
  generalize T.nodes.length = m at *
  go_enter Tryz.func60, Tryz.ntmps60
  go_wp2_with (go_at_call 98; refine hn.mono ?_; rintro e w' ⟨rfl, rfl⟩)
  go_ret
  exact ⟨rfl, Below.refl _ w⟩
set_option maxHeartbeats 1000000 in
theorem over_quota {w : World} {D : Value → List Int → Prop} {t : Nat} {T : Tr} (H : TreeIn (inW w) D t T) (hu : sumT T.nodes ≤ 1000000000) (h1 : T.nodes.length ≤ 128) (h2 : T.quota < (sumT T.nodes : Int)) :
    Calls Tryz.prog 60 #[.pointer (some ⟨t, 0, none⟩)] w fun e w' => e = .returned (.int .i64 13) ∧ Below w.heap.size w w' := by
  have hn := nodes_any H
  have hus := used_any (w := w.drew) (H.later (Below.refl _ w).drew) hu
  have c0 := H.at0.1
  have hS : ∀ w', Below w.heap.size w.drew w' → w'.cell? ⟨t, 0, none⟩ = some (.int .i64 T.quota) := fun w' hb => (H.later ((Below.refl _ w).drew.trans hb)).at0.1
  have b1 : ¬ (128 < (T.nodes.length : Int)) := by omega
  clear H hu h1
  generalize sumT T.nodes = s at *
  generalize T.nodes.length = m at *
  generalize T.quota = qq at *
  go_enter Tryz.func60, Tryz.ntmps60
  go_wp2_with (go_at_call 98; refine hn.mono ?_; rintro e w' ⟨rfl, rfl⟩)
  go_region_held3 (fun w' : World => w'.cell? ⟨t, 0, none⟩ = some (.int .i64 qq)) (first | exact c0 | exact hS _ (Below.refl _ _) | exact hS _ hb3) (first | (go_at_call 99; refine hus.mono ?_; rintro e w3 ⟨rfl, hb3⟩))
  all_goals go_wp2_with fail
  all_goals go_ret
  all_goals exact ⟨rfl, (Below.refl _ w).drew.trans hb3⟩
def overT (T : Tr) : Int := if 128 < T.nodes.length then 7 else if T.quota < (sumT T.nodes : Int) then 13 else 0
theorem over_any {w : World} {D : Value → List Int → Prop} {t : Nat} {T : Tr} (H : TreeIn (inW w) D t T) (hu : sumT T.nodes ≤ 1000000000) :
    Calls Tryz.prog 60 #[.pointer (some ⟨t, 0, none⟩)] w fun e w' => e = .returned (.int .i64 (overT T)) ∧ Below w.heap.size w w' := by
  unfold overT
  by_cases h1 : 128 < T.nodes.length
  · rw [if_pos h1]; exact over_full H h1
  · rw [if_neg h1]
    by_cases h2 : T.quota < (sumT T.nodes : Int)
    · rw [if_pos h2]; exact over_quota H hu (by omega) h2
    · rw [if_neg h2]; exact over_ok H hu (by omega) (by omega)
theorem DoL.kept {w0 w w4 : World} {S S4 : Blocks} {L L4 : List Rw} {t : Nat} {T : Tr} {R : Tr → Prop} (r : Value) (hO : Own ⟨w0, S4⟩ w4 L4) (H : Tree S (Pc L) t T) (hs : ∀ b x, (b, x) ∈ S → (b, x) ∈ S4) (hL : ∀ x ∈ L, x ∈ L4) (hR : R T) : DoL w0 S L t T w R r (.returned r) w4 :=
  ⟨S4, L4, T, rfl, hO, hL, H.mono (fun b x _ hx => hs b x hx) (fun v zs h => h.mono hL), ⟨fun b x hb _ => hs b x hb, fun b hb => .inl hb⟩, hR⟩
set_option maxHeartbeats 4000000 in
theorem do_gen {w0 w : World} {S : Blocks} {L : List Rw} {t : Nat} {T : Tr} (hO : Own ⟨w0, S⟩ w L) (H : Tree S (Pc L) t T) (hm : Mx w) (hmx : ∀ S' L' w', Own ⟨w0, S'⟩ w' L' → Mx w') (a : Option Addr) (ops : List OpD) (cap : Nat) (hn : ops.length ≤ 1000000) (code : Nat → Int)
    (hops : ∀ w' S' L', Own ⟨w0, S'⟩ w' L' → (∀ b x, (b, x) ∈ S → (b, x) ∈ S') → (∀ x ∈ L, x ∈ L') → ∀ i (h : i < ops.length), ∃ g off, a = some ⟨g, off, none⟩ ∧ w'.rangeAt g (off + i * 4) ops[i].cells) {P : Nat → Tr → Prop} (hP0 : ∀ T', Same T T' → P 0 T')
    (hstep : ∀ c i (h : i < ops.length) S' L' T' w', (∀ i' < i, code i' = 0) → Own ⟨w0, S'⟩ w' L' → (∀ x ∈ L, x ∈ L') → Tree S' (Pc L') c T' → (∀ b x, (b, x) ∈ S → (b, x) ∈ S') → (∀ b ∈ c :: T'.foot, w.heap.size ≤ b) → P i T' → Mx w' → Calls Tryz.prog 59 #[.pointer (some ⟨c, 0, none⟩), .agg ops[i].cells.toArray] w' (DoL w0 S' L' c T' w' (P (i + 1)) (.int .i64 (code i))))
    {r : Int} {R : Tr → Prop} (hbad : ∀ k < ops.length, code k ≠ 0 → (∀ i < k, code i = 0) → r = code k ∧ R T)
    (hend : (∀ i < ops.length, code i = 0) → ∀ T', P ops.length T' → sumT T'.nodes ≤ 1000000000 ∧ r = overT T' ∧ (r = 0 → R T') ∧ (r ≠ 0 → R T)) :
    Calls Tryz.prog 29 #[.pointer (some ⟨t, 0, none⟩), .slice a ops.length cap] w (DoL w0 S L t T w R (.int .i64 r)) := by
  have hlt : ∀ b x, (b, x) ∈ S → b < w.heap.size := fun b x hb => (hO.atLt hb).2
  have htl : t < w.heap.size := hlt _ _ H.at_.cells
  have hcl := clone_t hO H
  have HT := Lib.hid H
  have HOps := Lib.hid hops
  have HStep := Lib.hid hstep
  have HEnd := Lib.hid hend
  have HBad := Lib.hid hbad
  have HP0 := Lib.hid hP0
  clear hops hstep hend hP0 H hbad
  have hsz0 := hO.size
  clear hO
  go_enter Tryz.func29, Tryz.ntmps29
  go_wp2_with fail
  refine hcl.mono ?_
  rintro e wc ⟨c, S1, T1, rfl, h1, h2, h3, h4, h5⟩
  have hwc : w.heap.size ≤ wc.heap.size := by
    have := (h1.atLt h2.at_.cells).2
    have := h4 c (List.mem_cons_self ..)
    omega
  have HR := Lib.hid (show DoRel w0 S L w c P 0 wc from ⟨S1, L, T1, h1, fun _ h => h, h2, h3, h4, HP0.out _ h5, hmx _ _ _ h1, hwc⟩)
  clear hcl h1 h2 h3 h4 h5 HP0
  go_wp2_with fail
  go_loopw [14] (fun i wr => ∃ k : Nat, k ≤ ops.length ∧ i = .int .i64 k ∧ Hid (∀ i < k, code i = 0) ∧ DoRel w0 S L w c P k wr) (fun i _ => ops.length - (intOf i).toNat)
  case atStart => exact ⟨0, Nat.zero_le _, rfl, Lib.hid (fun i hi => absurd hi (Nat.not_lt_zero _)), HR.out⟩
  case round =>
    obtain ⟨k, hk, rfl, HZ, hR⟩ := hrel
    have HR1 := Lib.hid hR
    obtain ⟨S2, L2, T2, k1, k2, k3, k4, k5, k6, k7, k8⟩ := hR
    by_cases hkl : k < ops.length
    · obtain ⟨g, off, rfl, hr⟩ := HOps.out wr S2 L2 k1 k4 k2 k hkl
      have Hr := Lib.hid hr
      clear hr
      have HO := Lib.hid k1
      obtain ⟨od, hod⟩ : ∃ od, od = ops[k] := ⟨_, rfl⟩
      rw [← hod] at Hr
      have hstep2 := fun S' L' T' w' => HStep.out c k hkl S' L' T' w' HZ.out
      rw [← hod] at hstep2
      have Hs2 := Lib.hid hstep2
      have Hone := Lib.hid (op_one od)
      have hb63 : (k : Int) < (ops.length : Int) := by exact_mod_cast hkl
      clear hstep2 hod
      go_wp2_with (first
        | (refine wpList_load_mid rfl 40 (.tmp 16) rfl g (off + k * 4) rfl od.cells _ Hr.out Tryz.underlying40 rfl (info_op _) ?_)
        | (refine wpList_store_new rfl 40 (.tmp 7) (.tmp 17) rfl HO.out od.cells wr.heap.size rfl rfl rfl rfl (info_op _) Hone.out ?_))
      intro w3 hO3 hlt3
      have Hr2 := Lib.hid (show w3.rangeAt wr.heap.size 0 od.cells from by
        have h1 := Own.range (h := hO3) 0 4
        exact h1)
      have hcall := Hs2.out S2 _ T2 w3 hO3 (fun x hx => List.mem_cons_of_mem _ (k2 x hx)) (k3.mono (fun b x _ hx => hx) (fun v zs h => h.cons _)) k4 k5 k6 (hmx _ _ _ hO3)
      rcases Classical.em (code k = 0) with hck | hck
      · rw [hck] at hcall
        have hfin : ∀ e w4, DoL w0 S2 (⟨40, 4, .slice (some ⟨wr.heap.size, 0, none⟩) 1 1, 1, od.cells⟩ :: L2) c T2 w3 (P (k + 1)) (.int .i64 0) e w4 → e = .returned (.int .i64 0) ∧ DoRel w0 S L w c P (k + 1) w4 := fun e w4 hd => DoRel.step hd (fun x hx => List.mem_cons_of_mem _ (k2 x hx)) k4 k5 hlt (by omega) hmx
        have HF := Lib.hid hfin
        have HZ1 := Lib.hid (show ∀ i < k + 1, code i = 0 from fun i hi => by
          rcases Nat.lt_succ_iff_lt_or_eq.1 hi with h | h
          · exact HZ.out i h
          · rw [h]; exact hck)
        clear hfin hO3 Hr HO Hone Hs2 k1 k2 k3 k4 k5 k6 k7 HR1 HStep HEnd HOps HT HBad HZ hck
        go_wp2_with (refine wpList_load_mid rfl 40 (.tmp 7) rfl wr.heap.size 0 rfl od.cells _ Hr2.out Tryz.underlying40 rfl (info_op _) ?_)
        refine hcall.mono ?_
        rintro e w4 hd
        obtain ⟨rfl, hR4⟩ := HF.out e w4 hd
        have HR4 := Lib.hid hR4
        clear hd hR4 hcall HF Hr2
        go_wp2_with fail
        go_roundw
        case rel => exact ⟨k + 1, by omega, by go_num, HZ1, HR4.out⟩
        case measure => simp [intOf]; omega
      · obtain ⟨hrk, hRT⟩ := HBad.out k hkl hck HZ.out
        have hck0 : (r != 0) = true := by rw [hrk]; simpa using hck
        rw [← hrk] at hcall
        have hfin : ∀ e w4, DoL w0 S2 (⟨40, 4, .slice (some ⟨wr.heap.size, 0, none⟩) 1 1, 1, od.cells⟩ :: L2) c T2 w3 (P (k + 1)) (.int .i64 r) e w4 → e = .returned (.int .i64 r) ∧ DoL w0 S L t T w R (.int .i64 r) (.returned (.int .i64 r)) w4 := fun e w4 hd => by
          obtain ⟨S4, L4, T4, q1, q2, q3, q4, q5, q6⟩ := hd
          exact ⟨q1, DoL.kept _ q2 HT.out (fun b x hb => q5.kept b x (k4 b x hb) fun hb2 => by
            have := hlt b x hb
            have := k5 b hb2
            omega) (fun x hx => q3 x (List.mem_cons_of_mem _ (k2 x hx))) hRT⟩
        have HF := Lib.hid hfin
        clear hfin hO3 Hr HO Hone Hs2 k1 k2 k3 k4 k5 k6 k7 HR1 HStep HEnd HOps HT HBad HZ hck hRT hrk
        go_wp2_with (refine wpList_load_mid rfl 40 (.tmp 7) rfl wr.heap.size 0 rfl od.cells _ Hr2.out Tryz.underlying40 rfl (info_op _) ?_)
        refine hcall.mono ?_
        rintro e w4 hd
        obtain ⟨rfl, hR4⟩ := HF.out e w4 hd
        have HR4 := Lib.hid hR4
        clear hd hR4 hcall HF Hr2
        go_wp2_with fail
        go_ret
        exact HR4.out
    · obtain rfl : k = ops.length := by omega
      obtain ⟨z1, z2, z3, z4⟩ := HEnd.out HZ.out T2 k6
      have hov := over_any (k3.at_.inWorld k1) z1
      rw [← z2] at hov
      have hb63 : ¬ ((ops.length : Int) < (ops.length : Int)) := Int.lt_irrefl _
      have hgen : ∀ w5, Below wr.heap.size wr w5 → (w5.cell? ⟨c, 0, none⟩ = some (.int .i64 T2.quota) ∧ w5.cell? ⟨c, 1, none⟩ = some (.int .i64 T2.next) ∧ w5.cell? ⟨c, 2, none⟩ = some (.map (some T2.bm))) ∧ (w5.frozen? ⟨t, 0, none⟩ = false ∧ w5.frozen? ⟨t, 1, none⟩ = false ∧ w5.frozen? ⟨t, 2, none⟩ = false) ∧ (w5.cell? ⟨t, 0, none⟩ = some (.int .i64 T.quota) ∧ w5.cell? ⟨t, 1, none⟩ = some (.int .i64 T.next) ∧ w5.cell? ⟨t, 2, none⟩ = some (.map (some T.bm))) := by
        intro w5 hb
        have h5 := k1.later hb
        have ht5 := h5.at (k4 _ _ HT.out.at_.cells)
        exact ⟨(k3.at_.inWorld h5).at0, ⟨free_at ht5 0, free_at ht5 1, free_at ht5 2⟩, cell_at ht5 0, cell_at ht5 1, cell_at ht5 2⟩
      have Hgen := Lib.hid hgen
      clear hgen
      rcases Classical.em (r = 0) with hr0 | hr0
      · have z5 := z3 hr0
        clear z3 z4 z2
        subst hr0
        go_wp2_with fail
        refine hov.mono ?_
        rintro e w5 ⟨rfl, hb5⟩
        obtain ⟨⟨a0, a1, a2⟩, ⟨f0, f1, f2⟩, b0, b1, b2⟩ := Hgen.out w5 hb5
        go_wp2_with fail
        go_ret
        have ht5 := k4 _ _ HT.out.at_.cells
        refine ⟨_, L2, T2, rfl, store3 (k1.later hb5) ht5, k2, k3.moved ht5 (fun hm => by have := k5 t (List.mem_cons_of_mem _ hm); omega), ⟨fun b x hb hnb => upd_other (k4 b x hb) (fun e => hnb (e ▸ List.mem_cons_self ..)) _, fun b hb => ?_⟩, z5⟩
        rcases List.mem_cons.1 hb with rfl | hb
        · exact .inl (List.mem_cons_self ..)
        · exact .inr (k5 b (List.mem_cons_of_mem _ hb))
      · have z5 := z4 hr0
        have hr1 : (r != 0) = true := by simpa using hr0
        clear z3 z4 z2 hr0
        go_wp2_with fail
        refine hov.mono ?_
        rintro e w5 ⟨rfl, hb5⟩
        have HK := Lib.hid (show DoL w0 S L t T w R (.int .i64 r) (.returned (.int .i64 r)) w5 from DoL.kept _ (k1.later hb5) HT.out k4 k2 z5)
        clear hov Hgen k1 k2 k3 k4 k5 k6 k7 HR1 HStep HEnd HOps HT HBad HZ z1 z5
        go_wp2_with fail
        go_ret
        exact HK.out
end Go.Proofs.YtkhnkidggcjfeaaGreatDoor
end
section
namespace Go.Proofs.YtkhnkidggcjfeaaGreatDoor
open Go.RowKit
open Go.ChangeMaps (setBlock)
def doS (E : Et) : List OpE → Int × Et
  | [] => (0, E)
  | o :: r => if (stepE E o).1 = 0 then doS (stepE E o).2 r else ((stepE E o).1, E)
def overE (E : Et) : Int := if 128 < E.nodes.length then 7 else if E.quota < (sumE E.nodes : Int) then 13 else 0
def DoE (E : Et) (xs : List OpE) : Int × Et :=
  if (doS E xs).1 = 0 then (if overE (doS E xs).2 = 0 then (0, (doS E xs).2) else (overE (doS E xs).2, E)) else ((doS E xs).1, E)
def stE (E : Et) (xs : List OpE) (i : Nat) : Et := (xs.take i).foldl (fun E o => (stepE E o).2) E
def codeE (E : Et) (xs : List OpE) (i : Nat) : Int := match xs[i]? with
  | some o => (stepE (stE E xs i) o).1
  | none => 0
theorem stE_succ {E : Et} {xs : List OpE} {i : Nat} (h : i < xs.length) : stE E xs (i + 1) = (stepE (stE E xs i) xs[i]).2 := by
  unfold stE
  rw [List.take_succ_eq_append_getElem h, List.foldl_append]; rfl
theorem codeE_at {E : Et} {xs : List OpE} {i : Nat} (h : i < xs.length) : codeE E xs i = (stepE (stE E xs i) xs[i]).1 := by
  unfold codeE
  rw [List.getElem?_eq_getElem h]
theorem codeE_cons (E : Et) (o : OpE) (r : List OpE) (i : Nat) : codeE E (o :: r) (i + 1) = codeE (stepE E o).2 r i := by
  unfold codeE stE
  simp only [List.getElem?_cons_succ, List.take_succ_cons, List.foldl_cons]
theorem doS_ok : ∀ (xs : List OpE) (E : Et), (∀ i < xs.length, codeE E xs i = 0) → doS E xs = (0, stE E xs xs.length) := by
  intro xs
  induction xs with
  | nil => intro E _; rfl
  | cons o r ih =>
    intro E h
    have h0 : (stepE E o).1 = 0 := h 0 (by simp)
    unfold doS
    rw [if_pos h0, ih (stepE E o).2 fun i hi => by rw [← codeE_cons]; exact h (i + 1) (by simp; omega)]
    simp [stE]
theorem doS_bad : ∀ (xs : List OpE) (E : Et) (k : Nat), k < xs.length → codeE E xs k ≠ 0 → (∀ i < k, codeE E xs i = 0) → (doS E xs).1 = codeE E xs k := by
  intro xs
  induction xs with
  | nil => intro E k hk; exact absurd hk (by simp)
  | cons o r ih =>
    intro E k hk hc hz
    unfold doS
    cases k with
    | zero =>
      have h0 : (stepE E o).1 ≠ 0 := hc
      rw [if_neg h0]; rfl
    | succ k =>
      have h0 : (stepE E o).1 = 0 := hz 0 (Nat.succ_pos _)
      rw [if_pos h0, codeE_cons]
      exact ih _ k (by simpa using hk) (by rw [← codeE_cons]; exact hc) fun i hi => by rw [← codeE_cons]; exact hz (i + 1) (by omega)
theorem stE_inv {E : Et} {B : Nat} (h : Inv E B) (xs : List OpE) : ∀ i, Inv (stE E xs i) (B + i) := by
  intro i
  induction i with
  | zero => exact h
  | succ i ih =>
    by_cases hi : i < xs.length
    · rw [stE_succ hi]; exact stepE_inv ih _
    · have : stE E xs (i + 1) = stE E xs i := by
        unfold stE
        rw [List.take_of_length_le (by omega), List.take_of_length_le (by omega)]
      rw [this]; exact ih.mono (by omega)
theorem doS_inv {E : Et} {B : Nat} (h : Inv E B) (xs : List OpE) : Inv (doS E xs).2 (B + xs.length) := by
  induction xs generalizing E B with
  | nil => exact h
  | cons o r ih =>
    unfold doS
    split
    · have := ih (stepE_inv h o)
      exact this.mono (by simp; omega)
    · exact h.mono (by omega)
theorem DoE_inv {E : Et} {B : Nat} (h : Inv E B) (xs : List OpE) : Inv (DoE E xs).2 (B + xs.length) := by
  unfold DoE
  split
  · split
    · exact doS_inv h xs
    · exact h.mono (by omega)
  · exact h.mono (by omega)
theorem Rep.over {T : Tr} {E : Et} (h : Rep T E) : overT T = overE E := by
  unfold overT overE
  rw [h.count, h.sum, h.quota]
set_option maxHeartbeats 1000000 in
theorem Do_any {w0 w : World} {S : Blocks} {L : List Rw} {t : Nat} {T : Tr} {E : Et} {B : Nat} (hO : Own ⟨w0, S⟩ w L) (H : Tree S (Pc L) t T) (hR : Rep T E) (I : Inv E B) (hmx : Mx w0) (a : Option Addr) (ops : List OpD) (xs : List OpE) (cap : Nat) (hlen : xs.length = ops.length) (hn : B + ops.length ≤ 200000)
    (hops : ∀ w' S' L', Own ⟨w0, S'⟩ w' L' → (∀ b x, (b, x) ∈ S → (b, x) ∈ S') → (∀ x ∈ L, x ∈ L') → ∀ i (h : i < ops.length), ∃ g off, a = some ⟨g, off, none⟩ ∧ w'.rangeAt g (off + i * 4) ops[i].cells) (hin : ∀ i (h : i < ops.length), OpIn w0 S L ops[i] (xs[i]'(by omega))) :
    Calls Tryz.prog 29 #[.pointer (some ⟨t, 0, none⟩), .slice a ops.length cap] w (DoL w0 S L t T w (fun T' => Rep T' (DoE E xs).2) (.int .i64 (DoE E xs).1)) := by
  have hmx' : ∀ S' L' w', Own ⟨w0, S'⟩ w' L' → Mx w' := fun S' L' w' h => hmx.later h.below
  refine do_gen hO H (hmx' _ _ _ hO) hmx' a ops cap (by omega) (codeE E xs) hops (P := fun i T' => Rep T' (stE E xs i)) (fun T' hs => hR.same hs) (fun c i hi S' L' T' w' hz k1 k2 k3 ks kh hP k5 => ?_) (fun k hk hc hz => ?_) (fun hz T' hP => ?_)
  · have hx : i < xs.length := by omega
    have hi' := hin i hi
    have hdata := hi'.data.mono (F' := c :: T'.foot) ks (fun b x hb _ hm => absurd (kh b hm) (by have := (hO.atLt hb).2; omega)) k2
    have hnn := hi'.n
    have I' := stE_inv I xs i
    have hst := do_total k1 k3 hP I' (by omega) k5 ops[i].kind ops[i].p ops[i].q hi'.p hi'.q (va := ops[i].a) (vc := ops[i].c) (zs := xs[i].zs) (by rw [← hnn]; exact hdata) (c0 := (stepE (stE E xs i) xs[i]).1) (E' := (stepE (stE E xs i) xs[i]).2) (by
      have e : (⟨ops[i].kind, ops[i].p.data.toList, ops[i].q.data.toList, xs[i].zs⟩ : OpE) = xs[i] := by rw [← hi'.kind, ← hi'.l, ← hi'.l2]
      rw [e])
    rw [← hnn] at hst
    rw [codeE_at hx]
    have hst2 := hst.mono fun e w2 hd2 => hd2.imp (R' := fun T2 => Rep T2 (stE E xs (i + 1))) fun T2 hT2 => by rw [stE_succ hx]; exact hT2
    exact hst2
  · have h1 := doS_bad xs E k (by omega) hc hz
    have h2 : (doS E xs).1 ≠ 0 := by rw [h1]; exact hc
    unfold DoE
    rw [if_neg h2]
    exact ⟨h1, hR⟩
  · have h1 := doS_ok xs E (by rw [hlen]; exact hz)
    have I' := stE_inv I xs xs.length
    have hs := I'.sum
    rw [← hlen] at hP
    have ho := hP.over
    rw [← hP.sum] at hs
    unfold DoE
    rw [h1]
    simp only [if_true]
    refine ⟨by omega, ?_, fun hr => ?_, fun hr => ?_⟩
    · rw [ho]
      by_cases h : overE (stE E xs xs.length) = 0
      · rw [if_pos h, h]
      · rw [if_neg h]
    · by_cases h : overE (stE E xs xs.length) = 0
      · rw [if_pos h]; exact hP
      · rw [if_neg h] at hr; exact absurd hr h
    · by_cases h : overE (stE E xs xs.length) = 0
      · rw [if_pos h] at hr; exact absurd rfl hr
      · rw [if_neg h]; exact hR
end Go.Proofs.YtkhnkidggcjfeaaGreatDoor
end
