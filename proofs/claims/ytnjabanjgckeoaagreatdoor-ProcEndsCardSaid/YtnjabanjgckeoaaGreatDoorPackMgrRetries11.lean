/- Texts one behind the other, each in a section of its own: what calls make of memory, step by step. -/
import Derived.Test.YtnjabanjgckeoaaGreatDoorPackMgrRetries10

/- do, of whatever operation, against the plain state. -/
section
namespace Go.Proofs.YtnjabanjgckeoaaGreatDoor
open Go.RowKit
open Go.ChangeMaps (setBlock)
set_option linter.unusedVariables false
set_option linter.unusedSimpArgs false
set_option maxRecDepth 100000

/-- What an operation tells (0: it was done), and what it makes of a tree. -/
def stepE (E : Et) (o : OpE) : Int × Et :=
  if o.kind < 0 ∨ 6 < o.kind then (1, E) else
  match placeE E o.l with
  | (c, none) => (c, E)
  | (_, some (j, nd, z)) =>
    if 3500 < o.zs.length then (6, E) else
    match look nd.kids (toB z) with
    | none => if o.kind = 0 then (0, mkdirE E j nd (toB z)) else if o.kind = 2 then (0, createE E j nd (toB z) o.zs) else (8, E)
    | some i =>
      if o.kind = 0 ∨ o.kind = 2 then (9, E) else
      match look E.nodes i with
      | none => (0, E)
      | some f =>
        if o.kind = 1 then (if f.dir = true then (if f.kids.isEmpty = true then (0, rmdirE E j nd (toB z) i) else (12, E)) else (11, E))
        else if f.dir = true then (10, E)
        else if o.kind = 3 then (0, { E with nodes := put E.nodes i { f with data := o.zs } })
        else if o.kind = 6 then (0, takeEx E j (toB z))
        else match placeE E o.l2 with
          | (c, none) => (c, E)
          | (_, some (jb, ndb, zb)) => match look ndb.kids (toB zb) with
            | none => if o.kind = 4 then (0, putEx E jb (toB zb) i) else (0, putEx (takeEx E j (toB z)) jb (toB zb) i)
            | some old => if o.kind = 4 then (9, E) else match look E.nodes old with
              | none => (0, E)
              | some fo => if fo.dir = true then (10, E) else if old = i then (0, E) else (0, putEx (takeEx (takeEx E jb (toB zb)) j (toB z)) jb (toB zb) i)
theorem placeE_bad {E : Et} {l : List UInt8} {c : Int} (h : placeE E l = (c, none)) : c = 14 ∨ c = 8 ∨ c = 11 := by
  unfold placeE at h
  repeat' split at h
  all_goals first
    | (injection h with h _; subst h; decide)
    | (injection h with _ h; cases h)
theorem placeE_good {E : Et} {l : List UInt8} {c j : Int} {nd : ENd} {z : List UInt8} (h : placeE E l = (c, some (j, nd, z))) : c = 0 ∧ look E.nodes j = some nd ∧ nd.dir = true := by
  unfold placeE at h
  repeat' split at h
  all_goals first
    | (injection h with _ h; cases h; done)
    | skip
  rename_i h1 _ _ h2 h3
  injection h with e1 e2
  injection e2 with e2
  injection e2 with e2 e3
  injection e3 with e3 e4
  subst e1 e2 e3
  exact ⟨rfl, h2, h3⟩
theorem Rep.place_bad {T : Tr} {E : Et} (h : Rep T E) (hd : (T.nodes.map (·.1)).Nodup) {l : List UInt8} {c : Int} (hp : placeE E l = (c, none)) : placeT T l = (c, none) := by
  unfold placeE at hp
  unfold placeT
  cases h1 : (namesL l).getLast? with
  | none =>
    rw [h1] at hp
    have hp' : ((14 : Int), (none : Option (Int × ENd × List UInt8))) = (c, none) := hp
    obtain ⟨rfl, _⟩ := Prod.mk.inj hp'
    rfl
  | some z2 =>
    rw [h1] at hp
    rw [h.walk hd]
    simp only at hp ⊢
    cases h2 : walkE E 1 (namesL l).dropLast with
    | none => rw [h2] at hp; simpa using hp
    | some j2 =>
      rw [h2] at hp
      simp only at hp ⊢
      have hl := h.look hd j2
      cases h3 : Go.Proofs.YtnjabanjgckeoaaGreatDoor.look T.nodes j2 with
      | none => rw [h3] at hl; rw [← hl] at hp; simpa using hp
      | some nd =>
        rw [h3] at hl
        rw [← hl] at hp
        simp only [Option.map_some] at hp ⊢
        have e : nd.er.dir = nd.k.isSome := rfl
        rw [e] at hp
        cases h4 : nd.k with
        | none => rw [h4] at hp; simpa using hp
        | some k => rw [h4] at hp; simp at hp
theorem Rep.rm {T : Tr} {E : Et} (h : Rep T E) (hd : (T.nodes.map (·.1)).Nodup) (j : Int) (nd : Nd) (name : ByteArray) (i : Int) : Rep (rmT T j nd name i) (rmdirE E j nd.er name i) := by
  have h2 := h.setN hd j { nd with kids := del nd.kids name }
  have k2 := setN_nodup hd j { nd with kids := del nd.kids name }
  refine ⟨h.quota, h.next, ?_⟩
  show (erL (del (T.setN j { nd with kids := del nd.kids name }).nodes i)).Perm _
  have e : erL (del (T.setN j { nd with kids := del nd.kids name }).nodes i) = del (erL (T.setN j { nd with kids := del nd.kids name }).nodes) i := del_map Nd.er _ i
  rw [e]
  exact del_perm h2.nodes (by rw [erL_keys]; exact k2) i
theorem Rep.node {T : Tr} {E : Et} (h : Rep T E) (hd : (T.nodes.map (·.1)).Nodup) {i : Int} {ef : ENd} (he : Go.Proofs.YtnjabanjgckeoaaGreatDoor.look E.nodes i = some ef) : ∃ f, Go.Proofs.YtnjabanjgckeoaaGreatDoor.look T.nodes i = some f ∧ f.er = ef := by
  have hl := h.look hd i
  rw [he] at hl
  cases hf : Go.Proofs.YtnjabanjgckeoaaGreatDoor.look T.nodes i with
  | none => rw [hf] at hl; cases hl
  | some f => rw [hf] at hl; injection hl with hl; exact ⟨f, rfl, hl⟩
theorem stepE_inv {E : Et} {B : Nat} (h : Inv E B) (o : OpE) : Inv (stepE E o).2 (B + 1) := by
  have hs := h.mono (Nat.le_succ B)
  unfold stepE
  split
  · exact hs
  split
  · exact hs
  rename_i c j nd z hp
  obtain ⟨_, hj, hnd⟩ := placeE_good hp
  split
  · exact hs
  rename_i hlen
  have hz : o.zs.length ≤ 3500 := by omega
  split
  · rename_i hx
    split
    · exact h.mkdir hj hnd hx
    · split
      · exact h.create hj hnd hx hz
      · exact hs
  · rename_i i hx
    split
    · exact hs
    split
    · exact hs
    rename_i f hi
    split
    · split
      · rename_i hf
        split
        · rename_i hk
          exact (h.rm hj hx hi hf (List.isEmpty_iff.1 hk)).mono (Nat.le_succ B)
        · exact hs
      · exact hs
    split
    · exact hs
    rename_i hf
    have hf2 : f.dir = false := by simpa using hf
    split
    · exact h.write hi hf2 hz
    split
    · exact (h.take hj hx hi hf2).mono (Nat.le_succ B)
    split
    · exact hs
    rename_i c2 jb ndb zb hp2
    obtain ⟨_, hjb, hndb⟩ := placeE_good hp2
    have htk : ∀ {a : Int} {n : ENd}, look E.nodes a = some n → n.dir = true → ∃ n', look (takeEx E j (toB z)).nodes a = some n' ∧ n'.dir = true ∧ (∀ s, look n.kids s = none → look n'.kids s = none) := fun {a n} ha hn => by
      unfold takeEx
      simp only [hj, hx, hi]
      rw [look_put, look_put]
      by_cases e1 : a = j
      · rw [if_pos e1]
        rw [e1, hj] at ha; injection ha with ha
        refine ⟨_, rfl, by rw [← ha] at hn; exact hn, fun s hs => ?_⟩
        show look (del nd.kids (toB z)) s = none
        rw [← ha] at hs
        by_cases e : s = toB z
        · rw [e]; exact look_del_same (h.names j nd hj) _
        · rw [look_del_ne e]; exact hs
      · rw [if_neg e1]
        by_cases e2 : a = i
        · rw [e2, hi] at ha; injection ha with ha; rw [← ha, hf2] at hn; cases hn
        · rw [if_neg e2]; exact ⟨n, ha, hn, fun s hs => hs⟩
    have hti : look (takeEx E j (toB z)).nodes i = some { f with places := f.places - 1 } := by
      have hij : i ≠ j := fun e => by rw [e, hj] at hi; injection hi with hi; rw [hi, hf2] at hnd; cases hnd
      unfold takeEx
      simp only [hj, hx, hi]
      rw [look_put, look_put, if_neg hij, if_pos rfl]
    split
    · rename_i hxb
      split
      · exact h.put (Nat.le_succ B) (by have := h.ents; omega) hjb hndb hxb hi hf2
      · have h2 := h.take hj hx hi hf2
        obtain ⟨n', g1, g2, g3⟩ := htk hjb hndb
        exact h2.put (Nat.le_succ B) (by have := h2.ents; omega) g1 g2 (g3 _ hxb) hti hf2
    · rename_i old hxb
      split
      · exact hs
      split
      · exact hs
      rename_i fo ho
      split
      · exact hs
      rename_i hfo
      have hfo2 : fo.dir = false := by simpa using hfo
      split
      · exact hs
      rename_i hne
      -- over another file
      have h1 := h.take hjb hxb ho hfo2
      have hlk1 : ∀ a, look (takeEx E jb (toB zb)).nodes a = if a = jb then some { ndb with kids := del ndb.kids (toB zb) } else if a = old then some { fo with places := fo.places - 1 } else look E.nodes a := fun a => by
        unfold takeEx
        simp only [hjb, hxb, ho]
        rw [look_put, look_put]
      have hij : i ≠ j := fun e => by rw [e, hj] at hi; injection hi with hi; rw [hi, hf2] at hnd; cases hnd
      have hijb : i ≠ jb := fun e => by rw [e, hjb] at hi; injection hi with hi; rw [hi, hf2] at hndb; cases hndb
      have hoj : old ≠ j := fun e => by rw [e, hj] at ho; injection ho with ho; rw [ho, hfo2] at hnd; cases hnd
      have hi1 : look (takeEx E jb (toB zb)).nodes i = some f := by rw [hlk1, if_neg hijb, if_neg (Ne.symm hne)]; exact hi
      obtain ⟨nd1, g1, g2, g3⟩ : ∃ nd1, look (takeEx E jb (toB zb)).nodes j = some nd1 ∧ nd1.dir = true ∧ look nd1.kids (toB z) = some i := by
        rw [hlk1]
        by_cases e : j = jb
        · rw [if_pos e]
          have e2 : ndb = nd := by rw [e, hjb] at hj; injection hj
          refine ⟨_, rfl, hndb, ?_⟩
          show look (del ndb.kids (toB zb)) (toB z) = some i
          have e3 : toB z ≠ toB zb := fun e3 => by rw [e2, ← e3, hx] at hxb; injection hxb with hxb; exact hne hxb.symm
          rw [look_del_ne e3, e2]; exact hx
        · rw [if_neg e, if_neg (Ne.symm hoj)]; exact ⟨nd, hj, hnd, hx⟩
      have h2 := h1.take g1 g3 hi1 hf2
      have hlk2 : ∀ a, look (takeEx (takeEx E jb (toB zb)) j (toB z)).nodes a = if a = j then some { nd1 with kids := del nd1.kids (toB z) } else if a = i then some { f with places := f.places - 1 } else look (takeEx E jb (toB zb)).nodes a := fun a => by
        have : takeEx (takeEx E jb (toB zb)) j (toB z) = { takeEx E jb (toB zb) with nodes := Go.Proofs.YtnjabanjgckeoaaGreatDoor.put (Go.Proofs.YtnjabanjgckeoaaGreatDoor.put (takeEx E jb (toB zb)).nodes i { f with places := f.places - 1 }) j { nd1 with kids := del nd1.kids (toB z) } } := by
          generalize takeEx E jb (toB zb) = E1 at *
          unfold takeEx
          simp only [g1, g3, hi1]
        rw [this]
        show look (Go.Proofs.YtnjabanjgckeoaaGreatDoor.put (Go.Proofs.YtnjabanjgckeoaaGreatDoor.put (takeEx E jb (toB zb)).nodes i { f with places := f.places - 1 }) j { nd1 with kids := del nd1.kids (toB z) }) a = _
        rw [look_put, look_put]
      have hti2 : look (takeEx (takeEx E jb (toB zb)) j (toB z)).nodes i = some { f with places := f.places - 1 } := by rw [hlk2, if_neg hij, if_pos rfl]
      have hnmb := h.names jb ndb hjb
      obtain ⟨ndb2, k1, k2, k3⟩ : ∃ n, look (takeEx (takeEx E jb (toB zb)) j (toB z)).nodes jb = some n ∧ n.dir = true ∧ look n.kids (toB zb) = none := by
        rw [hlk2]
        by_cases e : jb = j
        · rw [if_pos e]
          refine ⟨_, rfl, g2, ?_⟩
          show look (del nd1.kids (toB z)) (toB zb) = none
          have e1 : nd1 = { ndb with kids := del ndb.kids (toB zb) } := by
            have := g1
            rw [hlk1, if_pos e.symm] at this
            injection this with this
            exact this.symm
          have e4 : look nd1.kids (toB zb) = none := by rw [e1]; exact look_del_same hnmb _
          by_cases e3 : toB zb = toB z
          · rw [e3]; exact look_del_same (h1.names j nd1 g1) _
          · rw [look_del_ne e3]; exact e4
        · rw [if_neg e, if_neg (Ne.symm hijb), hlk1, if_pos rfl]
          exact ⟨_, rfl, hndb, look_del_same hnmb _⟩
      exact h2.put (Nat.le_succ B) (by have := h2.ents; omega) k1 k2 k3 hti2 hf2
set_option maxHeartbeats 2000000 in
theorem do_total {w0 w : World} {S : Blocks} {L : List Rw} {t : Nat} {T : Tr} {E : Et} {B : Nat} (hO : Own ⟨w0, S⟩ w L) (H : Tree S (Pc L) t T) (hR : Rep T E) (I : Inv E B) (hB : B ≤ 100000000) (hm : Mx w) (κ : Int) (p q : ByteArray) (hp : p.size ≤ maxLen) (hq : q.size ≤ maxLen) {va : Option Addr} {vc : Nat} {zs : List Int} (hv : Byo w0 S (t :: T.foot) L (.slice va zs.length vc) zs) {c0 : Int} {E' : Et} (hE : stepE E ⟨κ, p.data.toList, q.data.toList, zs⟩ = (c0, E')) :
    Calls Tryz.prog 103 #[.pointer (some ⟨t, 0, none⟩), .agg (opL κ p q (.slice va zs.length vc)).toArray] w (DoL w0 S L t T w (fun T' => Rep T' E') (.int .i64 c0)) := by
  have hd := H.good.keys
  have hsame : ∀ {T' : Tr}, T' = T → Rep T' E := fun e => by rw [e]; exact hR
  have hn1 : 2 ≤ T.next := by have := I.first; rw [hR.next]; omega
  have hn2 : T.next ≤ 1000000000 := by have := I.nx; rw [hR.next]; omega
  have hfl : ∀ {i : Int} {ef : ENd}, look E.nodes i = some ef → ef.dir = false → ∃ f, Fl T i f ∧ f.er = ef := fun {i ef} h1 h2 => by
    have h3 := (I.file i ef h1 h2).2
    have h4 := refs_le E.nodes i
    have h5 := I.ents
    exact hR.file hd h1 h2 (by omega) (by omega)
  unfold stepE at hE
  simp only at hE
  split at hE
  · rename_i hk
    obtain ⟨rfl, rfl⟩ := Prod.mk.inj hE
    exact (do_kind hO H κ hk p q).mono fun e w2 hd2 => hd2.imp fun T' e1 => hsame e1
  rename_i hk
  have k0 : ¬ κ < 0 := fun h => hk (.inl h)
  have k6 : ¬ 6 < κ := fun h => hk (.inr h)
  split at hE
  · rename_i c1 hpl
    have hc := hR.place_bad hd hpl
    obtain ⟨rfl, rfl⟩ := Prod.mk.inj hE
    refine (do_bad hO H hm κ k0 k6 p q hp hc ?_).mono fun e w2 hd2 => hd2.imp fun T' e1 => hsame e1
    rcases placeE_bad hpl with rfl | rfl | rfl <;> rfl
  rename_i c9 j en z hpl
  obtain ⟨rfl, hje, hen⟩ := placeE_good hpl
  obtain ⟨nd, k, hc, ha, her⟩ := hR.place hd hpl
  have hkids : nd.kids = en.kids := congrArg ENd.kids her
  split at hE
  · rename_i hlen
    obtain ⟨rfl, rfl⟩ := Prod.mk.inj hE
    exact (do_long hO H hm κ k0 k6 p q hp (by exact_mod_cast hlen) hc ha).mono fun e w2 hd2 => hd2.imp fun T' e1 => hsame e1
  rename_i hlen0
  have hlen : zs.length ≤ 3500 := by omega
  have hlenI : ¬ (3500 : Int) < (zs.length : Int) := by omega
  have hl2 : zs.length ≤ 140737488355328 := by omega
  split at hE
  · rename_i hx
    rw [← hkids] at hx
    split at hE
    · rename_i h0
      subst h0
      obtain ⟨rfl, rfl⟩ := Prod.mk.inj hE
      exact do_grow0 hO H hm p q hp hlen hc ha hx fun S' w' h1 h2 _ _ => (growDir_any h1 h2 ha.there ha.dir (toB z) p q _ ⟨_, _, _, rfl⟩ hn1 hn2).mono fun e w2 hd2 => hd2.imp fun T' ⟨n, e1, e2⟩ => by
        rw [e2, ← her]; exact hR.mkdir hd (toB z) e1
    · rename_i k00
      split at hE
      · rename_i h0
        subst h0
        obtain ⟨rfl, rfl⟩ := Prod.mk.inj hE
        exact do_grow2 hO H hm p q hp hlen hc ha hx fun S' w' h1 h2 hss _ => (growFile_any h1 h2 ha.there ha.dir (toB z) p q _ zs (hv.mono hss (fun _ _ _ h => h) (fun _ h => h)) hl2 hn1 hn2).mono fun e w2 hd2 => hd2.imp fun T' ⟨n, e1, e2⟩ => by
          rw [e2, ← her]; exact hR.create hd (toB z) e1
      · rename_i k02
        obtain ⟨rfl, rfl⟩ := Prod.mk.inj hE
        exact (do_none hO H hm κ k0 k6 (by simpa using k00) (by simpa using k02) p q hp hlenI hc ha hx).mono fun e w2 hd2 => hd2.imp fun T' e1 => hsame e1
  · rename_i i hx
    have hxe := hx
    rw [← hkids] at hx
    split at hE
    · rename_i h02
      obtain ⟨rfl, rfl⟩ := Prod.mk.inj hE
      exact (do_twice hO H hm κ h02 p q hp hlenI hc ha hx).mono fun e w2 hd2 => hd2.imp fun T' e1 => hsame e1
    rename_i h02
    have k00 : (κ == 0) = false := by simpa using fun h => h02 (.inl h)
    have k02 : (κ == 2) = false := by simpa using fun h => h02 (.inr h)
    split at hE
    · rename_i hef
      obtain ⟨m, hm1, _⟩ := I.kids j en hje _ (look_mem hxe)
      rw [hef] at hm1; cases hm1
    rename_i ef hef
    obtain ⟨f, hfi, hfe⟩ := hR.node hd hef
    split at hE
    · rename_i h1
      subst h1
      split at hE
      · rename_i hdir
        have hfk : f.k.isSome = true := (congrArg ENd.dir hfe).trans hdir
        obtain ⟨kf, hkf⟩ := Option.isSome_iff_exists.1 hfk
        have hfkids : f.kids = ef.kids := congrArg ENd.kids hfe
        split at hE
        · rename_i hemp
          have hke := List.isEmpty_iff.1 hemp
          obtain ⟨hi1, hlone⟩ := I.lone hje hxe hef hdir
          have hno : ∀ x ∈ (T.setN j { nd with kids := del nd.kids (toB z) }).nodes, ∀ y ∈ x.2.kids, y.2 ≠ i := fun x hx y hy => by
            have h3 := (hR.setN hd j { nd with kids := del nd.kids (toB z) }).nodes.subset (er_mem hx)
            rw [show ({ nd with kids := del nd.kids (toB z) } : Nd).er = { en with kids := del en.kids (toB z) } by unfold Nd.er at her ⊢; rw [← her]] at h3
            exact refs_zero hlone h3 hy
          obtain ⟨rfl, rfl⟩ := Prod.mk.inj hE
          exact do_rm hO H hm p q hp hlenI hc ha hx fun S' w' h1 h2 => (rmdir_ok h1 h2 ha (toB z) hfi hkf (hfkids.trans hke) hi1 hno).mono fun e w2 hd2 => hd2.imp fun T' e1 => by
            rw [e1, ← her]; exact hR.rm hd j nd (toB z) i
        · rename_i hemp
          have hpos : 0 < f.kids.length := by
            rw [hfkids]
            exact List.length_pos_iff.2 fun e => hemp (by rw [e]; rfl)
          obtain ⟨rfl, rfl⟩ := Prod.mk.inj hE
          exact (do_rm hO H hm p q hp hlenI hc ha hx fun S' w' h1 h2 => rmdir_busy h1 h2 (toB z) hfi hkf hpos).mono fun e w2 hd2 => hd2.imp fun T' e1 => hsame e1
      · rename_i hdir
        have hfk : f.k = none := by
          have : f.k.isSome = ef.dir := congrArg ENd.dir hfe
          cases hk2 : f.k with
          | none => rfl
          | some k => rw [hk2] at this; exact absurd this.symm hdir
        obtain ⟨rfl, rfl⟩ := Prod.mk.inj hE
        exact (do_rm hO H hm p q hp hlenI hc ha hx fun S' w' h1 h2 => rmdir_file h1 h2 (toB z) hfi hfk).mono fun e w2 hd2 => hd2.imp fun T' e1 => hsame e1
    rename_i k01
    have k01 : (κ == 1) = false := by simpa using k01
    split at hE
    · rename_i hdir
      obtain ⟨rfl, rfl⟩ := Prod.mk.inj hE
      exact (do_isdir hO H hm κ k0 k6 k00 k01 k02 p q hp hlenI hc ha hx hfi ((congrArg ENd.dir hfe).trans hdir)).mono fun e w2 hd2 => hd2.imp fun T' e1 => hsame e1
    rename_i hdir
    have hdir2 : ef.dir = false := by simpa using hdir
    obtain ⟨f', g, hfe'⟩ := hfl hef hdir2
    have hff : f' = f := by have := g.there; rw [hfi] at this; injection this with this; exact this.symm
    subst hff
    have hp1 : 1 ≤ f'.places := by
      have h1 : f'.places = ef.places := congrArg ENd.places hfe
      have h2 := (I.file i ef hef hdir2).2
      have h3 := refs_pos (look_mem hje) (look_mem hxe)
      rw [h1, h2]; exact_mod_cast h3
    split at hE
    · rename_i h0
      subst h0
      obtain ⟨rfl, rfl⟩ := Prod.mk.inj hE
      exact do_turn3 hO H hm p q hp hlen hc ha hx g fun S' w' h1 h2 hss _ => (turn_write h1 h2 g p q _ zs (hv.mono hss (fun _ _ _ h => h) (fun _ h => h)) hl2).mono fun e w2 hd2 => hd2.imp fun T' ⟨f2, e1, e2⟩ => by
        rw [e2]; exact hR.write hd i (by rw [e1, hfe])
    rename_i k03
    split at hE
    · rename_i h0
      subst h0
      obtain ⟨rfl, rfl⟩ := Prod.mk.inj hE
      exact do_turn6 hO H hm p q hp hlen hc ha hx g fun S' w' h1 h2 _ _ => (turn_unlink h1 h2 ha hx g p q _ ⟨_, _, _, rfl⟩).mono fun e w2 hd2 => hd2.imp fun T' e1 => by
        rw [e1]; exact hR.take hd j (toB z)
    rename_i k06
    have h45 : κ = 4 ∨ κ = 5 := by
      simp only [beq_eq_false_iff_ne] at k00 k01 k02
      omega
    split at hE
    · rename_i c2 hpl2
      have hc2 := hR.place_bad hd hpl2
      have hc20 : (c2 != 0) = true := by rcases placeE_bad hpl2 with rfl | rfl | rfl <;> rfl
      rcases h45 with rfl | rfl
      · obtain ⟨rfl, rfl⟩ := Prod.mk.inj hE
        exact (do_turn4 hO H hm p q hp hlen hc ha hx g fun S' w' h1 h2 _ hm2 => turn_bad h1 h2 hm2 (.inl rfl) p q hq _ ⟨_, _, _, rfl⟩ hc2 hc20).mono fun e w2 hd2 => hd2.imp fun T' e1 => hsame e1
      · obtain ⟨rfl, rfl⟩ := Prod.mk.inj hE
        exact (do_turn5 hO H hm p q hp hlen hc ha hx g fun S' w' h1 h2 _ hm2 => turn_bad h1 h2 hm2 (.inr rfl) p q hq _ ⟨_, _, _, rfl⟩ hc2 hc20).mono fun e w2 hd2 => hd2.imp fun T' e1 => hsame e1
    rename_i c2 jb enb zb hplb
    obtain ⟨rfl, hjbe, henb⟩ := placeE_good hplb
    obtain ⟨ndb, kb, hcb, hab, herb⟩ := hR.place hd hplb
    have hkidsb : ndb.kids = enb.kids := congrArg ENd.kids herb
    split at hE
    · rename_i hxb
      rw [← hkidsb] at hxb
      split at hE
      · rename_i h0
        subst h0
        obtain ⟨rfl, rfl⟩ := Prod.mk.inj hE
        exact do_turn4 hO H hm p q hp hlen hc ha hx g fun S' w' h1 h2 _ hm2 => (turn_link h1 h2 hm2 p q hq _ ⟨_, _, _, rfl⟩ hcb fun S3 w3 h3 h4 => link_ok h3 h4 hab.there hab.dir (toB zb) hxb g.there g.file g.low g.high).mono fun e w2 hd2 => hd2.imp fun T' e1 => by
          rw [e1, ← putTx_of (toB zb) hab.there g.there]; exact hR.put hd jb (toB zb) i
      · rename_i h0
        obtain rfl : κ = 5 := h45.resolve_left h0
        obtain ⟨rfl, rfl⟩ := Prod.mk.inj hE
        exact do_turn5 hO H hm p q hp hlen hc ha hx g fun S' w' h1 h2 _ hm2 => (turn_rename h1 h2 hm2 p q hq _ ⟨_, _, _, rfl⟩ hcb fun S3 w3 h3 h4 => rename_free h3 h4 ha hab hx g hp1 hxb).mono fun e w2 hd2 => hd2.imp fun T' e1 => by
          rw [e1]; exact (hR.take hd j (toB z)).put (takeTx_nodup hd j (toB z)) jb (toB zb) i
    · rename_i old hxb
      have hxbe := hxb
      rw [← hkidsb] at hxb
      split at hE
      · rename_i h0
        subst h0
        obtain ⟨rfl, rfl⟩ := Prod.mk.inj hE
        exact (do_turn4 hO H hm p q hp hlen hc ha hx g fun S' w' h1 h2 _ hm2 => turn_link h1 h2 hm2 p q hq _ ⟨_, _, _, rfl⟩ hcb fun S3 w3 h3 h4 => link_twice h3 h4 hab.there hab.dir (toB zb) i hxb).mono fun e w2 hd2 => hd2.imp fun T' e1 => hsame e1
      rename_i h0
      obtain rfl : κ = 5 := h45.resolve_left h0
      split at hE
      · rename_i hefo
        obtain ⟨m, hm1, _⟩ := I.kids jb enb hjbe _ (look_mem hxbe)
        rw [hefo] at hm1; cases hm1
      rename_i efo hefo
      obtain ⟨fo, hfoi, hfoe⟩ := hR.node hd hefo
      split at hE
      · rename_i hdo
        obtain ⟨rfl, rfl⟩ := Prod.mk.inj hE
        exact (do_turn5 hO H hm p q hp hlen hc ha hx g fun S' w' h1 h2 _ hm2 => turn_rename h1 h2 hm2 p q hq _ ⟨_, _, _, rfl⟩ hcb fun S3 w3 h3 h4 => rename_still h3 h4 hab hxb hfoi (.inl ⟨(congrArg ENd.dir hfoe).trans hdo, rfl⟩)).mono fun e w2 hd2 => hd2.imp fun T' e1 => hsame e1
      rename_i hdo
      have hdo2 : efo.dir = false := by simpa using hdo
      obtain ⟨fo', go, hfoe'⟩ := hfl hefo hdo2
      split at hE
      · rename_i heq
        obtain ⟨rfl, rfl⟩ := Prod.mk.inj hE
        exact (do_turn5 hO H hm p q hp hlen hc ha hx g fun S' w' h1 h2 _ hm2 => turn_rename h1 h2 hm2 p q hq _ ⟨_, _, _, rfl⟩ hcb fun S3 w3 h3 h4 => rename_still h3 h4 hab hxb go.there (.inr ⟨by rw [go.file]; rfl, heq, rfl⟩)).mono fun e w2 hd2 => hd2.imp fun T' e1 => hsame e1
      · rename_i hne
        obtain ⟨rfl, rfl⟩ := Prod.mk.inj hE
        exact do_turn5 hO H hm p q hp hlen hc ha hx g fun S' w' h1 h2 _ hm2 => (turn_rename h1 h2 hm2 p q hq _ ⟨_, _, _, rfl⟩ hcb fun S3 w3 h3 h4 => rename_over h3 h4 ha hab hx g hp1 hxb go hne).mono fun e w2 hd2 => hd2.imp fun T' e1 => by
          rw [e1]; exact ((hR.take hd jb (toB zb)).take (takeTx_nodup hd jb (toB zb)) j (toB z)).put (takeTx_nodup (takeTx_nodup hd jb (toB zb)) j (toB z)) jb (toB zb) i
end Go.Proofs.YtnjabanjgckeoaaGreatDoor
end

/- over; Do, of whatever operations. -/
section
namespace Go.Proofs.YtnjabanjgckeoaaGreatDoor
open Go.RowKit
open Go.ChangeMaps (setBlock)
set_option linter.unusedVariables false
set_option linter.unusedSimpArgs false
set_option maxRecDepth 100000

theorem over_full {w : World} {D : Value → List Int → Prop} {t : Nat} {T : Tr} (H : TreeIn (inW w) D t T) (h1 : 128 < T.nodes.length) :
    Calls Tryz.prog 104 #[.pointer (some ⟨t, 0, none⟩)] w fun e w' => e = .returned (.int .i64 7) ∧ Below w.heap.size w w' := by
  have hn := nodes_any H
  have b1 : (128 < (T.nodes.length : Int)) := by omega
  clear H h1
  generalize T.nodes.length = m at *
  go_enter Tryz.func104, Tryz.ntmps104
  go_wp2_with (go_at_call 140; refine hn.mono ?_; rintro e w' ⟨rfl, rfl⟩)
  go_ret
  exact ⟨rfl, Below.refl _ w⟩
set_option maxHeartbeats 1000000 in
theorem over_quota {w : World} {D : Value → List Int → Prop} {t : Nat} {T : Tr} (H : TreeIn (inW w) D t T) (hu : sumT T.nodes ≤ 1000000000) (h1 : T.nodes.length ≤ 128) (h2 : T.quota < (sumT T.nodes : Int)) :
    Calls Tryz.prog 104 #[.pointer (some ⟨t, 0, none⟩)] w fun e w' => e = .returned (.int .i64 13) ∧ Below w.heap.size w w' := by
  have hn := nodes_any H
  have hus := used_any (w := w.drew) (H.later (Below.refl _ w).drew) hu
  have c0 := H.at0.1
  have hS : ∀ w', Below w.heap.size w.drew w' → w'.cell? ⟨t, 0, none⟩ = some (.int .i64 T.quota) := fun w' hb => (H.later ((Below.refl _ w).drew.trans hb)).at0.1
  have b1 : ¬ (128 < (T.nodes.length : Int)) := by omega
  clear H hu h1
  generalize sumT T.nodes = s at *
  generalize T.nodes.length = m at *
  generalize T.quota = qq at *
  go_enter Tryz.func104, Tryz.ntmps104
  go_wp2_with (go_at_call 140; refine hn.mono ?_; rintro e w' ⟨rfl, rfl⟩)
  go_region_held3 (fun w' : World => w'.cell? ⟨t, 0, none⟩ = some (.int .i64 qq)) (first | exact c0 | exact hS _ (Below.refl _ _) | exact hS _ hb3) (first | (go_at_call 141; refine hus.mono ?_; rintro e w3 ⟨rfl, hb3⟩))
  all_goals go_wp2_with fail
  all_goals go_ret
  all_goals exact ⟨rfl, (Below.refl _ w).drew.trans hb3⟩
/-- Of what there is too much: what over tells. -/
def overT (T : Tr) : Int := if 128 < T.nodes.length then 7 else if T.quota < (sumT T.nodes : Int) then 13 else 0
theorem over_any {w : World} {D : Value → List Int → Prop} {t : Nat} {T : Tr} (H : TreeIn (inW w) D t T) (hu : sumT T.nodes ≤ 1000000000) :
    Calls Tryz.prog 104 #[.pointer (some ⟨t, 0, none⟩)] w fun e w' => e = .returned (.int .i64 (overT T)) ∧ Below w.heap.size w w' := by
  unfold overT
  by_cases h1 : 128 < T.nodes.length
  · rw [if_pos h1]; exact over_full H h1
  · rw [if_neg h1]
    by_cases h2 : T.quota < (sumT T.nodes : Int)
    · rw [if_pos h2]; exact over_quota H hu (by omega) h2
    · rw [if_neg h2]; exact over_ok H hu (by omega) (by omega)
/-- The tree is as it was, beside whatever was made. -/
theorem DoL.kept {w0 w w4 : World} {S S4 : Blocks} {L L4 : List Rw} {t : Nat} {T : Tr} {R : Tr → Prop} (r : Value) (hO : Own ⟨w0, S4⟩ w4 L4) (H : Tree S (Pc L) t T) (hs : ∀ b x, (b, x) ∈ S → (b, x) ∈ S4) (hL : ∀ x ∈ L, x ∈ L4) (hR : R T) : DoL w0 S L t T w R r (.returned r) w4 :=
  ⟨S4, L4, T, rfl, hO, hL, H.mono (fun b x _ hx => hs b x hx) (fun v zs h => h.mono hL), ⟨fun b x hb _ => hs b x hb, fun b hb => .inl hb⟩, hR⟩
set_option maxHeartbeats 4000000 in
theorem do_gen {w0 w : World} {S : Blocks} {L : List Rw} {t : Nat} {T : Tr} (hO : Own ⟨w0, S⟩ w L) (H : Tree S (Pc L) t T) (hm : Mx w) (hmx : ∀ S' L' w', Own ⟨w0, S'⟩ w' L' → Mx w') (a : Option Addr) (ops : List OpD) (cap : Nat) (hn : ops.length ≤ 1000000) (code : Nat → Int)
    (hops : ∀ w' S' L', Own ⟨w0, S'⟩ w' L' → (∀ b x, (b, x) ∈ S → (b, x) ∈ S') → (∀ x ∈ L, x ∈ L') → ∀ i (h : i < ops.length), ∃ g off, a = some ⟨g, off, none⟩ ∧ w'.rangeAt g (off + i * 4) ops[i].cells) {P : Nat → Tr → Prop} (hP0 : ∀ T', Same T T' → P 0 T')
    (hstep : ∀ c i (h : i < ops.length) S' L' T' w', (∀ i' < i, code i' = 0) → Own ⟨w0, S'⟩ w' L' → (∀ x ∈ L, x ∈ L') → Tree S' (Pc L') c T' → (∀ b x, (b, x) ∈ S → (b, x) ∈ S') → (∀ b ∈ c :: T'.foot, w.heap.size ≤ b) → P i T' → Mx w' → Calls Tryz.prog 103 #[.pointer (some ⟨c, 0, none⟩), .agg ops[i].cells.toArray] w' (DoL w0 S' L' c T' w' (P (i + 1)) (.int .i64 (code i))))
    {r : Int} {R : Tr → Prop} (hbad : ∀ k < ops.length, code k ≠ 0 → (∀ i < k, code i = 0) → r = code k ∧ R T)
    (hend : (∀ i < ops.length, code i = 0) → ∀ T', P ops.length T' → sumT T'.nodes ≤ 1000000000 ∧ r = overT T' ∧ (r = 0 → R T') ∧ (r ≠ 0 → R T)) :
    Calls Tryz.prog 71 #[.pointer (some ⟨t, 0, none⟩), .slice a ops.length cap] w (DoL w0 S L t T w R (.int .i64 r)) := by
  have hlt : ∀ b x, (b, x) ∈ S → b < w.heap.size := fun b x hb => (hO.atLt hb).2
  have htl : t < w.heap.size := hlt _ _ H.at_.cells
  have hcl := clone_t hO H
  have HT := Lib.hid H
  have HOps := Lib.hid hops
  have HStep := Lib.hid hstep
  have HEnd := Lib.hid hend
  have HBad := Lib.hid hbad
  have HP0 := Lib.hid hP0
  clear hops hstep hend hP0 H hbad
  have hsz0 := hO.size
  clear hO
  go_enter Tryz.func71, Tryz.ntmps71
  go_wp2_with fail
  refine hcl.mono ?_
  rintro e wc ⟨c, S1, T1, rfl, h1, h2, h3, h4, h5⟩
  have hwc : w.heap.size ≤ wc.heap.size := by
    have := (h1.atLt h2.at_.cells).2
    have := h4 c (List.mem_cons_self ..)
    omega
  have HR := Lib.hid (show DoRel w0 S L w c P 0 wc from ⟨S1, L, T1, h1, fun _ h => h, h2, h3, h4, HP0.out _ h5, hmx _ _ _ h1, hwc⟩)
  clear hcl h1 h2 h3 h4 h5 HP0
  go_wp2_with fail
  go_loopw [14] (fun i wr => ∃ k : Nat, k ≤ ops.length ∧ i = .int .i64 k ∧ Hid (∀ i < k, code i = 0) ∧ DoRel w0 S L w c P k wr) (fun i _ => ops.length - (intOf i).toNat)
  case atStart => exact ⟨0, Nat.zero_le _, rfl, Lib.hid (fun i hi => absurd hi (Nat.not_lt_zero _)), HR.out⟩
  case round =>
    obtain ⟨k, hk, rfl, HZ, hR⟩ := hrel
    have HR1 := Lib.hid hR
    obtain ⟨S2, L2, T2, k1, k2, k3, k4, k5, k6, k7, k8⟩ := hR
    by_cases hkl : k < ops.length
    · obtain ⟨g, off, rfl, hr⟩ := HOps.out wr S2 L2 k1 k4 k2 k hkl
      have Hr := Lib.hid hr
      clear hr
      have HO := Lib.hid k1
      obtain ⟨od, hod⟩ : ∃ od, od = ops[k] := ⟨_, rfl⟩
      rw [← hod] at Hr
      have hstep2 := fun S' L' T' w' => HStep.out c k hkl S' L' T' w' HZ.out
      rw [← hod] at hstep2
      have Hs2 := Lib.hid hstep2
      have Hone := Lib.hid (op_one od)
      have hb63 : (k : Int) < (ops.length : Int) := by exact_mod_cast hkl
      clear hstep2 hod
      go_wp2_with (first
        | (refine wpList_load_mid rfl 84 (.tmp 16) rfl g (off + k * 4) rfl od.cells _ Hr.out Tryz.underlying84 rfl (info_op _) ?_)
        | (refine wpList_store_new rfl 84 (.tmp 7) (.tmp 17) rfl HO.out od.cells wr.heap.size rfl rfl rfl rfl (info_op _) Hone.out ?_))
      intro w3 hO3 hlt3
      have Hr2 := Lib.hid (show w3.rangeAt wr.heap.size 0 od.cells from by
        have h1 := Own.range (h := hO3) 0 4
        exact h1)
      have hcall := Hs2.out S2 _ T2 w3 hO3 (fun x hx => List.mem_cons_of_mem _ (k2 x hx)) (k3.mono (fun b x _ hx => hx) (fun v zs h => h.cons _)) k4 k5 k6 (hmx _ _ _ hO3)
      rcases Classical.em (code k = 0) with hck | hck
      · rw [hck] at hcall
        have hfin : ∀ e w4, DoL w0 S2 (⟨84, 4, .slice (some ⟨wr.heap.size, 0, none⟩) 1 1, 1, od.cells⟩ :: L2) c T2 w3 (P (k + 1)) (.int .i64 0) e w4 → e = .returned (.int .i64 0) ∧ DoRel w0 S L w c P (k + 1) w4 := fun e w4 hd => DoRel.step hd (fun x hx => List.mem_cons_of_mem _ (k2 x hx)) k4 k5 hlt (by omega) hmx
        have HF := Lib.hid hfin
        have HZ1 := Lib.hid (show ∀ i < k + 1, code i = 0 from fun i hi => by
          rcases Nat.lt_succ_iff_lt_or_eq.1 hi with h | h
          · exact HZ.out i h
          · rw [h]; exact hck)
        clear hfin hO3 Hr HO Hone Hs2 k1 k2 k3 k4 k5 k6 k7 HR1 HStep HEnd HOps HT HBad HZ hck
        go_wp2_with (refine wpList_load_mid rfl 84 (.tmp 7) rfl wr.heap.size 0 rfl od.cells _ Hr2.out Tryz.underlying84 rfl (info_op _) ?_)
        refine hcall.mono ?_
        rintro e w4 hd
        obtain ⟨rfl, hR4⟩ := HF.out e w4 hd
        have HR4 := Lib.hid hR4
        clear hd hR4 hcall HF Hr2
        go_wp2_with fail
        go_roundw
        case rel => exact ⟨k + 1, by omega, by go_num, HZ1, HR4.out⟩
        case measure => simp [intOf]; omega
      · obtain ⟨hrk, hRT⟩ := HBad.out k hkl hck HZ.out
        have hck0 : (r != 0) = true := by rw [hrk]; simpa using hck
        rw [← hrk] at hcall
        have hfin : ∀ e w4, DoL w0 S2 (⟨84, 4, .slice (some ⟨wr.heap.size, 0, none⟩) 1 1, 1, od.cells⟩ :: L2) c T2 w3 (P (k + 1)) (.int .i64 r) e w4 → e = .returned (.int .i64 r) ∧ DoL w0 S L t T w R (.int .i64 r) (.returned (.int .i64 r)) w4 := fun e w4 hd => by
          obtain ⟨S4, L4, T4, q1, q2, q3, q4, q5, q6⟩ := hd
          exact ⟨q1, DoL.kept _ q2 HT.out (fun b x hb => q5.kept b x (k4 b x hb) fun hb2 => by
            have := hlt b x hb
            have := k5 b hb2
            omega) (fun x hx => q3 x (List.mem_cons_of_mem _ (k2 x hx))) hRT⟩
        have HF := Lib.hid hfin
        clear hfin hO3 Hr HO Hone Hs2 k1 k2 k3 k4 k5 k6 k7 HR1 HStep HEnd HOps HT HBad HZ hck hRT hrk
        go_wp2_with (refine wpList_load_mid rfl 84 (.tmp 7) rfl wr.heap.size 0 rfl od.cells _ Hr2.out Tryz.underlying84 rfl (info_op _) ?_)
        refine hcall.mono ?_
        rintro e w4 hd
        obtain ⟨rfl, hR4⟩ := HF.out e w4 hd
        have HR4 := Lib.hid hR4
        clear hd hR4 hcall HF Hr2
        go_wp2_with fail
        go_ret
        exact HR4.out
    · obtain rfl : k = ops.length := by omega
      obtain ⟨z1, z2, z3, z4⟩ := HEnd.out HZ.out T2 k6
      have hov := over_any (k3.at_.inWorld k1) z1
      rw [← z2] at hov
      have hb63 : ¬ ((ops.length : Int) < (ops.length : Int)) := Int.lt_irrefl _
      have hgen : ∀ w5, Below wr.heap.size wr w5 → (w5.cell? ⟨c, 0, none⟩ = some (.int .i64 T2.quota) ∧ w5.cell? ⟨c, 1, none⟩ = some (.int .i64 T2.next) ∧ w5.cell? ⟨c, 2, none⟩ = some (.map (some T2.bm))) ∧ (w5.frozen? ⟨t, 0, none⟩ = false ∧ w5.frozen? ⟨t, 1, none⟩ = false ∧ w5.frozen? ⟨t, 2, none⟩ = false) ∧ (w5.cell? ⟨t, 0, none⟩ = some (.int .i64 T.quota) ∧ w5.cell? ⟨t, 1, none⟩ = some (.int .i64 T.next) ∧ w5.cell? ⟨t, 2, none⟩ = some (.map (some T.bm))) := by
        intro w5 hb
        have h5 := k1.later hb
        have ht5 := h5.at (k4 _ _ HT.out.at_.cells)
        exact ⟨(k3.at_.inWorld h5).at0, ⟨free_at ht5 0, free_at ht5 1, free_at ht5 2⟩, cell_at ht5 0, cell_at ht5 1, cell_at ht5 2⟩
      have Hgen := Lib.hid hgen
      clear hgen
      rcases Classical.em (r = 0) with hr0 | hr0
      · have z5 := z3 hr0
        clear z3 z4 z2
        subst hr0
        go_wp2_with fail
        refine hov.mono ?_
        rintro e w5 ⟨rfl, hb5⟩
        obtain ⟨⟨a0, a1, a2⟩, ⟨f0, f1, f2⟩, b0, b1, b2⟩ := Hgen.out w5 hb5
        go_wp2_with fail
        go_ret
        have ht5 := k4 _ _ HT.out.at_.cells
        refine ⟨_, L2, T2, rfl, store3 (k1.later hb5) ht5, k2, k3.moved ht5 (fun hm => by have := k5 t (List.mem_cons_of_mem _ hm); omega), ⟨fun b x hb hnb => upd_other (k4 b x hb) (fun e => hnb (e ▸ List.mem_cons_self ..)) _, fun b hb => ?_⟩, z5⟩
        rcases List.mem_cons.1 hb with rfl | hb
        · exact .inl (List.mem_cons_self ..)
        · exact .inr (k5 b (List.mem_cons_of_mem _ hb))
      · have z5 := z4 hr0
        have hr1 : (r != 0) = true := by simpa using hr0
        clear z3 z4 z2 hr0
        go_wp2_with fail
        refine hov.mono ?_
        rintro e w5 ⟨rfl, hb5⟩
        have HK := Lib.hid (show DoL w0 S L t T w R (.int .i64 r) (.returned (.int .i64 r)) w5 from DoL.kept _ (k1.later hb5) HT.out k4 k2 z5)
        clear hov Hgen k1 k2 k3 k4 k5 k6 k7 HR1 HStep HEnd HOps HT HBad HZ z1 z5
        go_wp2_with fail
        go_ret
        exact HK.out
end Go.Proofs.YtnjabanjgckeoaaGreatDoor
end

/- Do, of whatever operations, against the plain state. -/
section
namespace Go.Proofs.YtnjabanjgckeoaaGreatDoor
open Go.RowKit
open Go.ChangeMaps (setBlock)
set_option linter.unusedVariables false
set_option linter.unusedSimpArgs false
set_option maxRecDepth 100000

/-- Operations one by one, till the first that is refused. -/
def doS (E : Et) : List OpE → Int × Et
  | [] => (0, E)
  | o :: r => if (stepE E o).1 = 0 then doS (stepE E o).2 r else ((stepE E o).1, E)
def overE (E : Et) : Int := if 128 < E.nodes.length then 7 else if E.quota < (sumE E.nodes : Int) then 13 else 0
/-- Operations all at once, or not at all. -/
def DoE (E : Et) (xs : List OpE) : Int × Et :=
  if (doS E xs).1 = 0 then (if overE (doS E xs).2 = 0 then (0, (doS E xs).2) else (overE (doS E xs).2, E)) else ((doS E xs).1, E)
def stE (E : Et) (xs : List OpE) (i : Nat) : Et := (xs.take i).foldl (fun E o => (stepE E o).2) E
def codeE (E : Et) (xs : List OpE) (i : Nat) : Int := match xs[i]? with
  | some o => (stepE (stE E xs i) o).1
  | none => 0
theorem stE_succ {E : Et} {xs : List OpE} {i : Nat} (h : i < xs.length) : stE E xs (i + 1) = (stepE (stE E xs i) xs[i]).2 := by
  unfold stE
  rw [List.take_succ_eq_append_getElem h, List.foldl_append]; rfl
theorem codeE_at {E : Et} {xs : List OpE} {i : Nat} (h : i < xs.length) : codeE E xs i = (stepE (stE E xs i) xs[i]).1 := by
  unfold codeE
  rw [List.getElem?_eq_getElem h]
theorem codeE_cons (E : Et) (o : OpE) (r : List OpE) (i : Nat) : codeE E (o :: r) (i + 1) = codeE (stepE E o).2 r i := by
  unfold codeE stE
  simp only [List.getElem?_cons_succ, List.take_succ_cons, List.foldl_cons]
theorem doS_ok : ∀ (xs : List OpE) (E : Et), (∀ i < xs.length, codeE E xs i = 0) → doS E xs = (0, stE E xs xs.length) := by
  intro xs
  induction xs with
  | nil => intro E _; rfl
  | cons o r ih =>
    intro E h
    have h0 : (stepE E o).1 = 0 := h 0 (by simp)
    unfold doS
    rw [if_pos h0, ih (stepE E o).2 fun i hi => by rw [← codeE_cons]; exact h (i + 1) (by simp; omega)]
    simp [stE]
theorem doS_bad : ∀ (xs : List OpE) (E : Et) (k : Nat), k < xs.length → codeE E xs k ≠ 0 → (∀ i < k, codeE E xs i = 0) → (doS E xs).1 = codeE E xs k := by
  intro xs
  induction xs with
  | nil => intro E k hk; exact absurd hk (by simp)
  | cons o r ih =>
    intro E k hk hc hz
    unfold doS
    cases k with
    | zero =>
      have h0 : (stepE E o).1 ≠ 0 := hc
      rw [if_neg h0]; rfl
    | succ k =>
      have h0 : (stepE E o).1 = 0 := hz 0 (Nat.succ_pos _)
      rw [if_pos h0, codeE_cons]
      exact ih _ k (by simpa using hk) (by rw [← codeE_cons]; exact hc) fun i hi => by rw [← codeE_cons]; exact hz (i + 1) (by omega)
theorem stE_inv {E : Et} {B : Nat} (h : Inv E B) (xs : List OpE) : ∀ i, Inv (stE E xs i) (B + i) := by
  intro i
  induction i with
  | zero => exact h
  | succ i ih =>
    by_cases hi : i < xs.length
    · rw [stE_succ hi]; exact stepE_inv ih _
    · have : stE E xs (i + 1) = stE E xs i := by
        unfold stE
        rw [List.take_of_length_le (by omega), List.take_of_length_le (by omega)]
      rw [this]; exact ih.mono (by omega)
theorem doS_inv {E : Et} {B : Nat} (h : Inv E B) (xs : List OpE) : Inv (doS E xs).2 (B + xs.length) := by
  induction xs generalizing E B with
  | nil => exact h
  | cons o r ih =>
    unfold doS
    split
    · have := ih (stepE_inv h o)
      exact this.mono (by simp; omega)
    · exact h.mono (by omega)
theorem DoE_inv {E : Et} {B : Nat} (h : Inv E B) (xs : List OpE) : Inv (DoE E xs).2 (B + xs.length) := by
  unfold DoE
  split
  · split
    · exact doS_inv h xs
    · exact h.mono (by omega)
  · exact h.mono (by omega)
theorem Rep.over {T : Tr} {E : Et} (h : Rep T E) : overT T = overE E := by
  unfold overT overE
  rw [h.count, h.sum, h.quota]
set_option maxHeartbeats 1000000 in
theorem Do_any {w0 w : World} {S : Blocks} {L : List Rw} {t : Nat} {T : Tr} {E : Et} {B : Nat} (hO : Own ⟨w0, S⟩ w L) (H : Tree S (Pc L) t T) (hR : Rep T E) (I : Inv E B) (hmx : Mx w0) (a : Option Addr) (ops : List OpD) (xs : List OpE) (cap : Nat) (hlen : xs.length = ops.length) (hn : B + ops.length ≤ 200000)
    (hops : ∀ w' S' L', Own ⟨w0, S'⟩ w' L' → (∀ b x, (b, x) ∈ S → (b, x) ∈ S') → (∀ x ∈ L, x ∈ L') → ∀ i (h : i < ops.length), ∃ g off, a = some ⟨g, off, none⟩ ∧ w'.rangeAt g (off + i * 4) ops[i].cells) (hin : ∀ i (h : i < ops.length), OpIn w0 S L ops[i] (xs[i]'(by omega))) :
    Calls Tryz.prog 71 #[.pointer (some ⟨t, 0, none⟩), .slice a ops.length cap] w (DoL w0 S L t T w (fun T' => Rep T' (DoE E xs).2) (.int .i64 (DoE E xs).1)) := by
  have hmx' : ∀ S' L' w', Own ⟨w0, S'⟩ w' L' → Mx w' := fun S' L' w' h => hmx.later h.below
  refine do_gen hO H (hmx' _ _ _ hO) hmx' a ops cap (by omega) (codeE E xs) hops (P := fun i T' => Rep T' (stE E xs i)) (fun T' hs => hR.same hs) (fun c i hi S' L' T' w' hz k1 k2 k3 ks kh hP k5 => ?_) (fun k hk hc hz => ?_) (fun hz T' hP => ?_)
  · have hx : i < xs.length := by omega
    have hi' := hin i hi
    have hdata := hi'.data.mono (F' := c :: T'.foot) ks (fun b x hb _ hm => absurd (kh b hm) (by have := (hO.atLt hb).2; omega)) k2
    have hnn := hi'.n
    have I' := stE_inv I xs i
    have hst := do_total k1 k3 hP I' (by omega) k5 ops[i].kind ops[i].p ops[i].q hi'.p hi'.q (va := ops[i].a) (vc := ops[i].c) (zs := xs[i].zs) (by rw [← hnn]; exact hdata) (c0 := (stepE (stE E xs i) xs[i]).1) (E' := (stepE (stE E xs i) xs[i]).2) (by
      have e : (⟨ops[i].kind, ops[i].p.data.toList, ops[i].q.data.toList, xs[i].zs⟩ : OpE) = xs[i] := by rw [← hi'.kind, ← hi'.l, ← hi'.l2]
      rw [e])
    rw [← hnn] at hst
    rw [codeE_at hx]
    have hst2 := hst.mono fun e w2 hd2 => hd2.imp (R' := fun T2 => Rep T2 (stE E xs (i + 1))) fun T2 hT2 => by rw [stE_succ hx]; exact hT2
    exact hst2
  · have h1 := doS_bad xs E k (by omega) hc hz
    have h2 : (doS E xs).1 ≠ 0 := by rw [h1]; exact hc
    unfold DoE
    rw [if_neg h2]
    exact ⟨h1, hR⟩
  · have h1 := doS_ok xs E (by rw [hlen]; exact hz)
    have I' := stE_inv I xs xs.length
    have hs := I'.sum
    rw [← hlen] at hP
    have ho := hP.over
    rw [← hP.sum] at hs
    unfold DoE
    rw [h1]
    simp only [if_true]
    refine ⟨by omega, ?_, fun hr => ?_, fun hr => ?_⟩
    · rw [ho]
      by_cases h : overE (stE E xs xs.length) = 0
      · rw [if_pos h, h]
      · rw [if_neg h]
    · by_cases h : overE (stE E xs xs.length) = 0
      · rw [if_pos h]; exact hP
      · rw [if_neg h] at hr; exact absurd hr h
    · by_cases h : overE (stE E xs xs.length) = 0
      · rw [if_pos h] at hr; exact absurd rfl hr
      · rw [if_neg h]; exact hR
end Go.Proofs.YtnjabanjgckeoaaGreatDoor
end

/- Several trees of the law's, each apart from the others. -/
section
namespace Go.Proofs.YtnjabanjgckeoaaGreatDoor
open Go.RowKit
open Go.ChangeMaps (setBlock)
set_option linter.unusedVariables false
set_option linter.unusedSimpArgs false
set_option maxRecDepth 100000

/-- Trees apart from each other, as plain data, beside blocks of which each is known. -/
def Forest (w0 : World) (L : List Rw) (K : Blocks) (ts : List (Nat × Et)) (w : World) : Prop :=
  ∃ (S : Blocks) (L' : List Rw) (Ts : List (Nat × Tr × Et)), Own ⟨w0, S⟩ w L' ∧ (∀ x ∈ L, x ∈ L') ∧ (∀ b x, (b, x) ∈ K → (b, x) ∈ S ∧ ∀ y ∈ Ts, b ∉ y.1 :: y.2.1.foot) ∧ (∀ x ∈ Ts, Tree S (Pc L') x.1 x.2.1 ∧ Rep x.2.1 x.2.2) ∧
    Ts.Pairwise (fun x y => ∀ b ∈ x.1 :: x.2.1.foot, b ∉ y.1 :: y.2.1.foot) ∧ Ts.map (fun x => (x.1, x.2.2)) = ts
section
variable {w0 w w' : World} {L M : List Rw} {K : Blocks} {ts : List (Nat × Et)}
structure OpOld (w0 : World) (o : OpD) (x : OpE) : Prop where
  kind : x.kind = o.kind
  l : x.l = o.p.data.toList
  l2 : x.l2 = o.q.data.toList
  p : o.p.size ≤ maxLen
  q : o.q.size ≤ maxLen
  n : o.n = x.zs.length
  data : By w0 (.slice o.a o.n o.c) x.zs
structure OpsA (w0 : World) (a : Option Addr) (ops : List OpD) (xs : List OpE) : Prop where
  len : xs.length = ops.length
  at_ : ∀ i (h : i < ops.length), ∃ g off, a = some ⟨g, off, none⟩ ∧ w0.rangeAt g (off + i * 4) ops[i].cells
  old : ∀ i (h : i < ops.length), OpOld w0 ops[i] (xs[i]'(by omega))
def findX (E : Et) (l : List UInt8) : Option Int := if okP l then walkE E 1 (namesL l) else none
end
end Go.Proofs.YtnjabanjgckeoaaGreatDoor
end

/- A volume in memory, beside its tree, its log and its disk, as plain data. -/
section
namespace Go.Proofs.YtnjabanjgckeoaaGreatDoor
open Go.RowKit
open Go.ChangeMaps (setBlock)
set_option linter.unusedVariables false
set_option linter.unusedSimpArgs false
set_option maxRecDepth 100000

theorem DkAt.openB {W0 : Base} {w : World} {d : Nat} {D : Dk} {L : List Rw} (h : DkAt W0 w d D L) : ∃ R : List Rw, Own W0 w (R ++ L) ∧ (∀ (W : Base) w' L', Own W w' (R ++ L') → DkAt W w' d D L') := by
  obtain ⟨hD, kb, lb, n, sv, hn, hO⟩ := h
  exact ⟨[rowD d kb lb sv n D, rowK kb n D.kept, rowK lb n D.last, rowS sv D.since], hO, fun W w' L' h' => ⟨hD, kb, lb, n, sv, hn, h'⟩⟩
theorem LgAt.openB {W0 : Base} {w : World} {l d : Nat} {D : Dk} {side used : Nat} {recs : List (List Int)} {dead : Bool} {L : List Rw} (h : LgAt W0 w l d D side used recs dead L) : ∃ R : List Rw, Own W0 w (R ++ L) ∧ (∀ (W : Base) w' L', Own W w' (R ++ L') → LgAt W w' l d D side used recs dead L') := by
  obtain ⟨lv, vs, M, h1, h2⟩ := h.rest
  obtain ⟨R, h3, h4⟩ := h1.openB
  refine ⟨R ++ rowLog l d side used lv dead :: rowV lv vs :: M, by simpa using h3, fun W w' L' k => ⟨h.six, h.sides, h.fit, lv, vs, M, h4 _ _ _ (by simpa using k), h2⟩⟩

/-- A volume's blocks, its tree, how often each file is held, its disk and its log. -/
structure VX where
  t : Nat
  d : Nat
  l : Nat
  hm : Nat
  E : Et
  B : Nat
  held : List (Int × Int)
  D : Dk
  n : Nat
  h : Nat
  side : Nat
  used : Nat
  st : Nat
  recs : List (List Int)
def volCells (X : VX) : Array Value := #[.pointer (some ⟨X.t, 0, none⟩), .pointer (some ⟨X.d, 0, none⟩), .pointer (some ⟨X.l, 0, none⟩), .map (some X.hm), .bool false]
def heldV (m : List (Int × Int)) : List (Int × Value) := m.map fun p => (p.1, .int .i64 p.2)
structure VolIn (w0 : World) (S : Blocks) (R L : List Rw) (v : Nat) (X : VX) (T : Tr) (w : World) : Prop where
  own : Own ⟨w0, S⟩ w (R ++ L)
  log : ∀ (W : Base) w' L', Own W w' (R ++ L') → LgAt W w' X.l X.d X.D X.side X.used X.recs false L'
  tree : Tree S (Pc L) X.t T
  rep : Rep T X.E
  inv : Inv X.E X.B
  cells : (v, .cells (volCells X) 44) ∈ S
  map : ∃ o, (X.hm, o) ∈ S ∧ MapO KI o (heldV X.held)
  off : v ∉ X.t :: T.foot ∧ X.hm ∉ X.t :: T.foot ∧ v ≠ X.hm
  live : LogLive X.D X.n X.h X.side X.used X.recs X.st
  left : X.D.left = 0
/-- Beside blocks that are known, and rows. -/
def VolAt (w0 w : World) (K : Blocks) (L : List Rw) (v : Nat) (X : VX) : Prop :=
  ∃ S R L' T, VolIn w0 S R L' v X T w ∧ (∀ x ∈ L, x ∈ L') ∧ (∀ b x, (b, x) ∈ K → (b, x) ∈ S ∧ b ∉ v :: X.hm :: X.t :: T.foot)
/-- Behind a call: what was the volume's is, or is new; all else is as it was. -/
def VolTo (w0 : World) (S : Blocks) (L : List Rw) (v : Nat) (X : VX) (T : Tr) (n : Nat) (X' : VX) (w' : World) : Prop :=
  ∃ S' R' L' T', VolIn w0 S' R' L' v X' T' w' ∧ (∀ x ∈ L, x ∈ L') ∧ (∀ b x, (b, x) ∈ S → b ∉ v :: X.hm :: X.t :: T.foot → (b, x) ∈ S') ∧ (∀ b ∈ X.t :: T'.foot, b ∈ X.t :: T.foot ∨ n ≤ b) ∧ X'.t = X.t ∧ X'.hm = X.hm

section
variable {w0 w w' : World} {S S' : Blocks} {R L L' M : List Rw} {v : Nat} {X X' : VX} {T T' : Tr} {K : Blocks}
theorem VolIn.ownL (h : VolIn w0 S R L v X T w) : Own ⟨w0, S⟩ w L := h.own.of_mem (List.sublist_append_right _ _)
theorem VolIn.lg (h : VolIn w0 S R L v X T w) : LgAt ⟨w0, S⟩ w X.l X.d X.D X.side X.used X.recs false L := h.log _ _ _ h.own
theorem VolIn.treeW (h : VolIn w0 S R L v X T w) : TreeIn (inW w) (Pc L) X.t T := h.tree.at_.inWorld h.ownL
theorem VolIn.below (h : VolIn w0 S R L v X T w) : Below w0.heap.size w0 w := h.own.below
theorem VolIn.later (h : VolIn w0 S R L v X T w) (hb : Below w.heap.size w w') : VolIn w0 S R L v X T w' := { h with own := h.own.later hb }
theorem VolIn.join (h : VolIn w0 S R L v X T w) (k : Own w w' M) : VolIn w0 S R (M ++ L) v X T w' :=
  { h with
    own := (h.own.join k).perm (by rw [← List.append_assoc, ← List.append_assoc]; exact List.perm_append_comm.append_right L)
    tree := h.tree.mono (fun b x _ hx => hx) (fun v zs hh => hh.mono fun x hx => List.mem_append_right _ hx) }
theorem VolIn.mem (h : VolIn w0 S R L v X T w) {b : Nat} (hb : b ∈ v :: X.hm :: X.t :: T.foot) : ∃ o, (b, o) ∈ S := by
  rcases List.mem_cons.1 hb with rfl | hb
  · exact ⟨_, h.cells⟩
  · rcases List.mem_cons.1 hb with rfl | hb
    · obtain ⟨o, h1, _⟩ := h.map; exact ⟨o, h1⟩
    · exact kept_in h.tree.at_ b hb
theorem VolIn.lt (h : VolIn w0 S R L v X T w) {b : Nat} (hb : b ∈ v :: X.hm :: X.t :: T.foot) : w0.heap.size ≤ b ∧ b < w.heap.size := by
  obtain ⟨o, ho⟩ := h.mem hb
  exact h.own.atLt ho
theorem VolIn.base (h : VolIn w0 S R L v X T w) (hO : Own ⟨w0, S'⟩ w' (R ++ L)) (hk : ∀ b x, (b, x) ∈ S → b ∈ v :: X.hm :: X.t :: T.foot → (b, x) ∈ S') : VolIn w0 S' R L v X T w' :=
  { h with
    own := hO
    tree := h.tree.mono (fun b x hb hx => hk b x hx (List.mem_cons_of_mem _ (List.mem_cons_of_mem _ hb))) (fun _ _ hh => hh)
    cells := hk _ _ h.cells (List.mem_cons_self ..)
    map := by
      obtain ⟨o, h1, h2⟩ := h.map
      exact ⟨o, hk _ _ h1 (List.mem_cons_of_mem _ (List.mem_cons_self ..)), h2⟩ }
theorem VolIn.logTurn (h : VolIn w0 S R L v X T w) {D' : Dk} {side' used' st' : Nat} {recs' : List (List Int)} (hl : LgAt ⟨w0, S⟩ w' X.l X.d D' side' used' recs' false L) (hv : LogLive D' X.n X.h side' used' recs' st') (hz : D'.left = 0) :
    ∃ R', VolIn w0 S R' L v { X with D := D', side := side', used := used', recs := recs', st := st' } T w' := by
  obtain ⟨R', h1, h2⟩ := hl.openB
  exact ⟨R', ⟨h1, h2, h.tree, h.rep, h.inv, h.cells, h.map, h.off, hv, hz⟩⟩
theorem VolIn.forTree (h : VolIn w0 S R L v X T w) : Own ⟨w0, blks w R ++ S⟩ w L ∧ Tree (blks w R ++ S) (Pc L) X.t T :=
  ⟨h.own.shelve, h.tree.mono (fun b x _ hx => List.mem_append_right _ hx) (fun _ _ hh => hh)⟩
theorem VolIn.back (h : VolIn w0 S R L v X T w) (hO : Own ⟨w0, S'⟩ w' L') (hL : ∀ x ∈ L, x ∈ L') (hR : ∀ m ∈ blks w R, m ∈ S') (hk : ∀ b x, (b, x) ∈ S → b ∈ v :: X.hm :: X.t :: T.foot → (b, x) ∈ S') : VolIn w0 (offR R S') R L' v X T w' := by
  have hoff : ∀ b x, (b, x) ∈ S → b ∈ v :: X.hm :: X.t :: T.foot → (b, x) ∈ offR R S' := fun b x hx hb => offR_mem.2 ⟨hk b x hx hb, h.own.offB hx⟩
  obtain ⟨o, h1, h2⟩ := h.map
  exact { h with
    own := h.own.unshelve hO hR
    tree := h.tree.mono (fun b x hb hx => hoff b x hx (List.mem_cons_of_mem _ (List.mem_cons_of_mem _ hb))) (fun _ _ hh => hh.mono hL)
    cells := hoff _ _ h.cells (List.mem_cons_self ..)
    map := ⟨o, hoff _ _ h1 (List.mem_cons_of_mem _ (List.mem_cons_self ..)), h2⟩ }
theorem VolIn.offTree (h : VolIn w0 S R L v X T w) {b : Nat} {o : Obj} (hb : (b, o) ∈ blks w R) : b ∉ v :: X.hm :: X.t :: T.foot := fun hm => by
  obtain ⟨x, hx⟩ := h.mem hm
  obtain ⟨r, hr, h1, _⟩ := blks_mem hb
  exact h.own.offB hx r hr h1
theorem VolIn.turned (h : VolIn w0 S R L v X T w) (hO : Own ⟨w0, S'⟩ w' L') (hL : ∀ x ∈ L, x ∈ L') (ht : Tree S' (Pc L') X.t T') (hf : Frame (blks w R ++ S) S' (X.t :: T.foot) (X.t :: T'.foot) w.heap.size) {E' : Et} {B' : Nat} (hr : Rep T' E') (hi : Inv E' B') :
    VolIn w0 (offR R S') R L' v { X with E := E', B := B' } T' w' := by
  have hkeep : ∀ b x, (b, x) ∈ S → b ∉ X.t :: T.foot → (b, x) ∈ offR R S' := fun b x hx hb => offR_mem.2 ⟨hf.kept b x (List.mem_append_right _ hx) hb, h.own.offB hx⟩
  have hnot : ∀ b, b ∈ v :: X.hm :: X.t :: T.foot → b ∉ X.t :: T.foot → b ∉ X.t :: T'.foot := fun b hb hn hm => by
    rcases hf.fresh b hm with h1 | h1
    · exact hn h1
    · have := (h.lt hb).2; omega
  obtain ⟨o, h1, h2⟩ := h.map
  refine ⟨h.own.unshelve hO fun m hm => hf.kept m.1 m.2 (List.mem_append_left _ hm) fun hb => h.offTree hm (List.mem_cons_of_mem _ (List.mem_cons_of_mem _ hb)), h.log, ht.mono (fun b x hb hx => offR_mem.2 ⟨hx, ?_⟩) (fun _ _ hh => hh), hr, hi, hkeep _ _ h.cells h.off.1, ⟨o, hkeep _ _ h1 h.off.2.1, h2⟩, ⟨hnot _ (List.mem_cons_self ..) h.off.1, hnot _ (List.mem_cons_of_mem _ (List.mem_cons_self ..)) h.off.2.1, h.off.2.2⟩, h.live, h.left⟩
  rcases hf.fresh b hb with h3 | h3
  · obtain ⟨x0, hx0⟩ := h.mem (List.mem_cons_of_mem _ (List.mem_cons_of_mem _ h3))
    exact h.own.offB hx0
  · exact h.own.freshR h3
theorem VolIn.to (h : VolIn w0 S R L v X T w) (n : Nat) : VolTo w0 S L v X T n X w := ⟨S, R, L, T, h, fun _ h => h, fun _ _ h _ => h, fun _ h => .inl h, rfl, rfl⟩
theorem VolIn.turn (h : VolIn w0 S R L v X T w) {f : FuncId} {args : Array Value} {r : Value} {E' : Et} {B' : Nat} (hi : Inv E' B')
    (hcall : ∀ S1, (∀ b x, (b, x) ∈ S → (b, x) ∈ S1) → Own ⟨w0, S1⟩ w L → Tree S1 (Pc L) X.t T → Calls Tryz.prog f args w (DoL w0 S1 L X.t T w (fun T' => Rep T' E') r)) :
    Calls Tryz.prog f args w fun e w' => e = .returned r ∧ VolTo w0 S L v X T w.heap.size { X with E := E', B := B' } w' := by
  obtain ⟨h1, h2⟩ := h.forTree
  refine (hcall _ (fun b x hx => List.mem_append_right _ hx) h1 h2).mono fun e w' hd => ?_
  obtain ⟨S', L', T', g0, g1, g2, g3, g4, g5⟩ := hd
  refine ⟨g0, _, R, L', T', h.turned g1 g2 g3 g4 g5 hi, g2, fun b x hx hb => offR_mem.2 ⟨g4.kept b x (List.mem_append_right _ hx) (fun hm => hb (List.mem_cons_of_mem _ (List.mem_cons_of_mem _ hm))), h.own.offB hx⟩, g4.fresh, rfl, rfl⟩
/-- Stores into the volume's own cells, or into the map of what is held. -/
theorem VolIn.held' (h : VolIn w0 S R L v X T w) {o o' : Obj} (ho : (X.hm, o) ∈ S) {held' : List (Int × Int)} (hm : MapO KI o' (heldV held')) : VolIn w0 (upd S X.hm o') R L v { X with held := held' } T (setBlock w X.hm o') := by
  have hne : ∀ b ∈ X.t :: T.foot, b ≠ X.hm := fun b hb e => h.off.2.1 (e ▸ hb)
  exact { h with
    own := h.own.setB ho o'
    tree := h.tree.mono (fun b x hb hx => upd_other hx (hne b hb) _) (fun _ _ hh => hh)
    cells := upd_other h.cells h.off.2.2 _
    map := ⟨o', upd_same ho _, hm⟩ }
end
end Go.Proofs.YtnjabanjgckeoaaGreatDoor
end

/- slices.Concat of slices of bytes: as that of parts. -/
section
namespace Go.Proofs.YtnjabanjgckeoaaGreatDoor
open Go.RowKit
set_option linter.unusedVariables false
set_option linter.unusedSimpArgs false
set_option maxRecDepth 100000

/-- slices.Grow of nil. -/
theorem grow_zeroB (w : World) : Calls Tryz.prog 203 #[.slice none 0 0, .int .i64 0] w fun e w' => e = .returned (.slice none 0 0) ∧ w = w' := by
  go_enter Tryz.func203, Tryz.ntmps203
  go_wp2_with fail
  go_ret
  exact ⟨rfl, rfl⟩
theorem grow_posB (n : Nat) (w : World) (h0 : 0 < n) (h1 : n ≤ 140737488355328) : Calls Tryz.prog 203 #[.slice none 0 0, .int .i64 (n : Int)] w fun e w' => ∃ v, e = .returned v ∧ Own w w' [rowU v []] := by
  obtain ⟨i0, hi, hz0, hz1, hz2⟩ := info_parts info_u
  have hrz : ∀ ty, (Builtin.append_ #[82, 3] ty #[.slice none 0 0, .int .i64 (n : Int)]).run Tryz.prog w =
      .ok (.slice (some ⟨w.heap.size, 0, none⟩) n (grownCap w n 0 5)) (w.drew.alloc (.cells (#[] ++ Builtin.zeroCells (Value.int .u8 0).cells n ++ Builtin.zeroCells (Value.int .u8 0).cells (grownCap w n 0 5 - n)) 5)) := fun ty => by
    have h := Lib.run_append_grow_zeros w 82 3 ty 5 i0 (.int .u8 0) .i64 .i64 Tryz.underlying82 Tryz.underlying3 hi hz0 none 0 0 [] (run_firstCells_none w.drew i0.size 0 0 0) n h0 (by omega) (by omega) (by omega) (by rw [hz2]; omega) (growslice_fits (by omega) (by rw [hz2]; omega))
    simpa using h
  have hge : n ≤ grownCap w n 0 5 := grownCap_ge w _ _ _
  have hle : grownCap w n 0 5 ≤ maxLen := grownCap_le_maxLen w n 0 _ (by unfold maxLen; omega)
  obtain ⟨G, hG⟩ : ∃ G, G = grownCap w n 0 5 := ⟨_, rfl⟩
  rw [← hG] at hrz hge hle
  have hO := World.ownsRow_made (base := w.heap.size) (e := 5) (size := 1) w.drew (#[] ++ Builtin.zeroCells (Value.int .u8 0).cells n ++ Builtin.zeroCells (Value.int .u8 0).cells (G - n)) G (Nat.le_refl _) hle (by simp [Builtin.zeroCells, Value.cells]; omega)
  generalize (#[] ++ Builtin.zeroCells (Value.int .u8 0).cells n ++ Builtin.zeroCells (Value.int .u8 0).cells (G - n)) = C at *
  have hO2 : Own w (w.drew.alloc (.cells C 5)) [rowU (.slice (some ⟨w.heap.size, 0, none⟩) 0 G) []] := ⟨(Own.start w).drew.alloc (.cells C 5) |>.below, fun p hp => by rw [List.mem_singleton.1 hp]; exact hO, List.pairwise_singleton _ _, (fun m hm => by cases hm), (fun m hm => by cases hm)⟩
  have HO := Lib.hid hO2
  have hG63 : G ≤ 9223372036854775807 := by unfold maxLen at hle; omega
  clear hG hO hO2 hle
  go_enter Tryz.func203, Tryz.ntmps203
  go_wp2_with (at_builtin; refine Lib.wpList_append_run _ rfl _ _ _ _ rfl _ _ rfl rfl _ _ (hrz _) ?_)
  go_ret
  exact ⟨_, rfl, HO.out⟩

set_option maxHeartbeats 1600000 in
theorem concat_anyB (a : Option Addr) (c : Nat) (PS : List (Value × List Int)) (w : World) (hP : Parts w a PS) (hn : PS.length ≤ maxLen) (hl : (allOf PS).length ≤ 140737488355328) :
    Calls Tryz.prog 147 #[.slice a PS.length c] w fun e w' => ∃ v, e = .returned v ∧ Own w w' [rowU v (allOf PS)] := by
  unfold maxLen at hn
  have HP := Lib.hid hP
  have Hl := Lib.hid hl
  clear hP hl
  go_enter Tryz.func147, Tryz.ntmps147
  go_wp2_with fail
  go_loop [3, 11] (fun t i => ∃ k : Nat, k ≤ PS.length ∧ i = .int .i64 k ∧ t = .int .i64 ((allOf (PS.take k)).length : Int)) (fun _ i => PS.length - (intOf i).toNat)
  case atStart => exact ⟨0, Nat.zero_le _, rfl, rfl⟩
  case round =>
    obtain ⟨k, hk, rfl, rfl⟩ := hrel
    by_cases hlt : k < PS.length
    · obtain ⟨g, o, rfl, hc, _, _, ga, gc, hv, hv1, hv2⟩ := HP.out k hlt
      have HS := Lib.hid (congrArg List.length (allOf_take_succ PS k hlt))
      have hs1 := allOf_take_le PS k
      have hs2 := allOf_take_le PS (k + 1)
      have hs3 : (allOf (PS.take (k + 1))).length = (allOf (PS.take k)).length + (PS[k].2).length := by rw [HS.out, List.length_append]
      have hs4 : (((allOf (PS.take k)).length : Nat) : Int) + (((PS[k].2).length : Nat) : Int) ≤ 140737488355328 := by have := Hl.out; omega
      have HS3 := Lib.hid hs3
      rw [hv] at hc
      clear hs3 hv
      generalize (allOf (PS.take k)).length = m at *
      generalize (PS[k].2).length = m2 at *
      go_wp2_with fail
      exact ⟨⟨k + 1, by omega, by go_num, by rw [HS3.out]; go_num⟩, by simp [intOf]; omega⟩
    · obtain rfl : k = PS.length := by omega
      have hl := Hl.out
      have HT := Lib.hid (show allOf (PS.take PS.length) = allOf PS by rw [List.take_length])
      rw [HT.out]
      obtain ⟨i0, hi, hz0, hz1, hz2⟩ := info_parts info_u
      have hm0 : (0 : Int) ≤ ((allOf PS).length : Int) := by omega
      clear HT
      obtain ⟨n, hn2⟩ : ∃ n, (allOf PS).length = n := ⟨_, rfl⟩
      rw [hn2] at hm0 hl ⊢
      have Hn2 := Lib.hid hn2
      clear hn2
      go_wp2_with fail
      refine (show Calls Tryz.prog 203 #[.slice none 0 0, .int .i64 (n : Int)] w fun e w' => ∃ v, e = .returned v ∧ Own w w' [rowU v []] from ?_).mono ?_
      · rcases Nat.eq_zero_or_pos n with h0 | h0
        · rw [h0]; exact (grow_zeroB w).mono fun e w' ⟨h1, h2⟩ => ⟨_, h1, h2 ▸ (Own.start w).nil _ _⟩
        · exact grow_posB n w h0 hl
      rintro e w1 ⟨v, rfl, hO1⟩
      have HO1 := Lib.hid hO1
      obtain ⟨va, vc, rfl, _, _⟩ := Own.sized (h := hO1)
      clear hO1
      go_wp2_with fail
      go_loopw [6, 27] (fun t i wr => ∃ k : Nat, k ≤ PS.length ∧ i = .int .i64 k ∧ Own w wr [rowU t (allOf (PS.take k))]) (fun _ i _ => PS.length - (intOf i).toNat)
      case atStart => exact ⟨0, Nat.zero_le _, rfl, HO1.out⟩
      case round =>
        obtain ⟨k, hk, rfl, hO⟩ := hrel
        by_cases hlt : k < PS.length
        · obtain ⟨g, o, rfl, hc, hy⟩ := (HP.out.later hO.below) k hlt
          have hys := hy.1
          have HS := Lib.hid (allOf_take_succ PS k hlt)
          have hs2 := allOf_take_le PS (k + 1)
          have hs3 : (allOf (PS.take (k + 1))).length = (allOf (PS.take k)).length + (PS[k].2).length := by rw [HS.out, List.length_append]
          have hsum : (allOf (PS.take k)).length + (PS[k].2).length ≤ 140737488355328 := by have := Hl.out; omega
          have Hsum := Lib.hid hsum
          have HO := Lib.hid hO
          have Hys := Lib.hid hys
          clear hs2 hs3 hO hy hys hsum
          generalize PS[k].2 = zk at *
          generalize PS[k].1 = vk at *
          go_wp2_with (at_builtin; refine wpList_append_src rfl (.tmp 31) (.tmp 32) 82 rfl _ (allOf (PS.take k)).length (bs (allOf (PS.take k))) vk zk.length (bs zk) rfl rfl HO.out i0 (.int .u8 0) 1 Tryz.underlying82 hi hz0 hz1 hz2 rfl (by decide) Hys.out (by rw [bs_length, Nat.mul_one]) (by have := Hsum.out; unfold maxLen; omega) (by have := Hsum.out; omega) ?_)
          intro v' w' hO'
          rw [← bs_append, ← HS.out] at hO'
          have HO' := Lib.hid (show Own w w' [rowU v' (allOf (PS.take (k + 1)))] by unfold rowU; rw [HS.out, List.length_append, ← HS.out]; exact hO')
          clear hO' Hsum
          go_wp2_with fail
          exact ⟨⟨k + 1, by omega, by go_num, HO'.out⟩, by simp [intOf]; omega⟩
        · obtain rfl : k = PS.length := by omega
          rw [List.take_length] at hO
          have HO := Lib.hid hO
          clear hO
          go_wp2_with fail
          go_ret
          exact ⟨_, rfl, HO.out⟩


end Go.Proofs.YtnjabanjgckeoaaGreatDoor
end

/- Operations as a record. -/
section
namespace Go.Proofs.YtnjabanjgckeoaaGreatDoor
open Go.RowKit
open Go.ChangeMaps (setBlock)
set_option linter.unusedVariables false
set_option linter.unusedSimpArgs false
set_option maxRecDepth 100000

theorem Own.unfix {W0 : Base} {w : World} {L : List Rw} {M : Blocks} (h : Own ⟨W0.world, M ++ W0.maps⟩ w L) : Own W0 w L := ⟨h.below, h.rows, h.apart, fun m hm => h.maps m (List.mem_append_right _ hm), fun m hm => h.offmaps m (List.mem_append_right _ hm)⟩
theorem flatO_set (ds : List OpD) (k : Nat) (hk : k < ds.length) (hq : ds[k].q = ⟨#[]⟩) : (ds.map OpD.cells).flatten.set (k * 4 + 2) (.string ⟨#[]⟩) = (ds.map OpD.cells).flatten := by
  have h := flatO ds k 2 hk (by decide)
  have h2 : (ds[k]).cells[2]? = some (.string ⟨#[]⟩) := by rw [← hq]; rfl
  rw [h2] at h
  apply List.ext_getElem?
  intro i
  rw [List.getElem?_set]
  split
  · rename_i e
    subst e
    rw [h, if_pos (by rw [flatO_len]; omega)]
  · rfl
theorem packsD_byts (ops : List (OpD × List Int)) (hk : ∀ o ∈ ops, 0 ≤ o.1.kind ∧ o.1.kind < 4294967296) (hl : ∀ o ∈ ops, o.1.p.size ≤ 100000 ∧ o.1.q.size ≤ 100000 ∧ o.2.length ≤ 100000) (hz : ∀ o ∈ ops, Byts o.2) : Byts (packsD ops) := by
  intro z hzm
  obtain ⟨l, h1, h2⟩ := List.mem_flatten.1 hzm
  obtain ⟨o, ho, rfl⟩ := List.mem_map.1 h1
  obtain ⟨k1, k2⟩ := hk o ho
  obtain ⟨l1, l2, l3⟩ := hl o ho
  have hsb : ∀ s : ByteArray, s.size ≤ 100000 → Byts (sizedL (sb s)) := fun s hs => sizedL_byts _ (sb_byts s) (by rw [sb_length]; omega)
  exact ((le4_byts _ k1 k2).append ((hsb _ l1).append ((hsb _ l2).append (sizedL_byts _ (hz o ho) (by omega))))) z h2
def recO (ops : List (OpD × List Int)) : List Int := 111 :: packsD ops
set_option maxHeartbeats 8000000 in
theorem recordO_any {W0 : Base} {w : World} {L : List Rw} (hO : Own W0 w L) {a : Option Addr} {ops : List (OpD × List Int)} (hP : PackIn W0 L a ops) (cap : Nat) (hn0 : 0 < ops.length) (hn : ops.length ≤ 100000) (hq : ∀ o ∈ ops, o.1.kind = 4 ∨ o.1.kind = 5 ∨ o.1.q = ⟨#[]⟩) :
    Calls Tryz.prog 106 #[.slice a ops.length cap] w fun e w' => ∃ v L1, e = .returned v ∧ Own W0 w' (rowU v (recO ops) :: (L1 ++ L)) := by
  obtain ⟨ds, hds⟩ : ∃ ds, ds = ops.map (·.1) := ⟨_, rfl⟩
  have hdl : ops.length = ds.length := by rw [hds]; simp
  have hcl := cloneOps_any w a ds cap (by omega) (by omega) (fun i h => by
    obtain ⟨g, off, e1, e2⟩ := hP.at_ w L hO (fun x hx => hx) i (by omega)
    refine ⟨g, off, e1, ?_⟩
    have : ds[i] = (ops[i]'(by omega)).1 := by simp [hds]
    rw [this]; exact e2)
  have hqd : ∀ i (h : i < ds.length), (ds[i]).kind = 4 ∨ (ds[i]).kind = 5 ∨ (ds[i]).q = ⟨#[]⟩ := fun i h => by
    have : ds[i] = (ops[i]'(by omega)).1 := by simp [hds]
    rw [this]; exact hq _ (List.getElem_mem _)
  rw [hdl]
  have HP := Lib.hid hP
  have HO := Lib.hid hO
  have Hqd := Lib.hid hqd
  have Hds := Lib.hid hds
  have Hdl := Lib.hid hdl
  have hn2 : ds.length ≤ 100000 := by omega
  have hn3 : 0 < ds.length := by omega
  have hcs := conv_constL
  clear hP hO hqd hds hdl hq hn hn0
  go_enter Tryz.func106, Tryz.ntmps106
  go_wp2_with fail
  refine hcl.mono ?_
  rintro e w1 ⟨v, rfl, hO1⟩
  obtain ⟨g, cp, rfl, _, _, hcp, hcm⟩ := Own.form (h := (show Own w w1 (⟨84, 4, v, ds.length, (ds.map OpD.cells).flatten⟩ :: []) from hO1)) hn3
  have HR0 := Lib.hid (show ∃ L1, Own W0 w1 (rowO (.slice (some ⟨g, 0, none⟩) ds.length cp) ds :: (L1 ++ L)) from ⟨[], HO.out.join hO1⟩)
  unfold maxLen at hcm
  clear hO1 hcl HO
  go_wp2_with fail
  go_loopw [3, 10] (fun f iv wr => ∃ k : Nat, k ≤ ds.length ∧ f = .int .i64 0 ∧ iv = .int .i64 k ∧ ∃ L1, Own W0 wr (rowO (.slice (some ⟨g, 0, none⟩) ds.length cp) ds :: (L1 ++ L))) (fun _ iv _ => ds.length - (intOf iv).toNat)
  case atStart => exact ⟨0, Nat.zero_le _, rfl, rfl, HR0.out⟩
  case round =>
    obtain ⟨k, hk, rfl, rfl, L1, hR⟩ := hrel
    by_cases hkl : k < ds.length
    · have hr : wr.rangeAt g (k * 4) ds[k].cells := fun j u hj => by
        have hj4 : j < 4 := by
          have := (List.getElem?_eq_some_iff.1 hj).1
          exact this
        have := Own.cell (h := (show Own W0 wr (⟨84, 4, .slice (some ⟨g, 0, none⟩) ds.length cp, ds.length, (ds.map OpD.cells).flatten⟩ :: (L1 ++ L)) from hR)) (k * 4 + j) (by omega)
        rw [this, flatO ds k j hkl hj4]; exact hj
      have hqk := Hqd.out k hkl
      have hset := flatO_set ds k hkl
      obtain ⟨o, ho⟩ : ∃ o, o = ds[k] := ⟨_, rfl⟩
      rw [← ho] at hr hqk hset
      have Hr := Lib.hid hr
      have HO := Lib.hid hR
      have Hone := Lib.hid (op_one o)
      have Hset := Lib.hid hset
      have Hqk := Lib.hid hqk
      have hb63 : (k : Int) < (ds.length : Int) := by exact_mod_cast hkl
      clear hr hR ho hset hqk HR0
      go_wp2_with (first
        | (refine wpList_load_mid rfl 84 (.tmp 13) rfl g (k * 4) rfl o.cells _ Hr.out Tryz.underlying84 rfl (info_op _) ?_)
        | (refine wpList_store_new rfl 84 (.tmp 5) (.tmp 14) rfl HO.out o.cells wr.heap.size rfl rfl rfl rfl (info_op _) Hone.out ?_))
      intro w3 hO3 hlt3
      obtain ⟨H, hH⟩ : ∃ H, wr.heap.size = H := ⟨_, rfl⟩
      rw [hH] at hO3 ⊢
      have HO3 := Lib.hid (show Own W0 w3 (boxOp H o :: rowO (.slice (some ⟨g, 0, none⟩) ds.length cp) ds :: (L1 ++ L)) from hO3)
      obtain ⟨q0, q1, q2, q3⟩ := box_cells HO3.out (List.mem_cons_self ..)
      have hfz : w3.frozen? ⟨g, k * 4 + 2, none⟩ = false := Own.free (h := (show Own W0 w3 (⟨84, 4, .slice (some ⟨g, 0, none⟩) ds.length cp, ds.length, (ds.map OpD.cells).flatten⟩ :: (boxOp H o :: (L1 ++ L))) from HO3.out.swap)) _
      have hol : (w3.cell? ⟨g, k * 4 + 2, none⟩) = some (.string o.q) := Hr.out 2 _ rfl ▸ (by
        have := Own.cell (h := (show Own W0 w3 (⟨84, 4, .slice (some ⟨g, 0, none⟩) ds.length cp, ds.length, (ds.map OpD.cells).flatten⟩ :: (boxOp H o :: (L1 ++ L))) from HO3.out.swap)) (k * 4 + 2) (by omega)
        have h2 := Own.cell (h := (show Own W0 wr (⟨84, 4, .slice (some ⟨g, 0, none⟩) ds.length cp, ds.length, (ds.map OpD.cells).flatten⟩ :: (L1 ++ L)) from HO.out)) (k * 4 + 2) (by omega)
        rw [this, ← h2])
      have HE4 := Lib.hid (show ∃ L1', Own W0 w3 (rowO (.slice (some ⟨g, 0, none⟩) ds.length cp) ds :: (L1' ++ L)) from ⟨boxOp H o :: L1, HO3.out.swap⟩)
      have HE5 := Lib.hid (fun hq : o.q = ⟨#[]⟩ => (show ∃ L1', Own W0 (w3.setCell ⟨g, k * 4 + 2, none⟩ (.string ⟨#[]⟩)) (rowO (.slice (some ⟨g, 0, none⟩) ds.length cp) ds :: (L1' ++ L)) from ⟨boxOp H o :: L1, by
        have := Own.set (h := (show Own W0 w3 (⟨84, 4, .slice (some ⟨g, 0, none⟩) ds.length cp, ds.length, (ds.map OpD.cells).flatten⟩ :: (boxOp H o :: (L1 ++ L))) from HO3.out.swap)) (k * 4 + 2) (.string ⟨#[]⟩)
        rw [Hset.out hq] at this
        exact this⟩))
      clear hO3 Hr HO Hone hH hlt3 Hset
      by_cases h4 : o.kind = 4
      · rw [h4] at q0
        go_wp2_with fail
        go_roundw
        case rel => exact ⟨k + 1, by omega, rfl, by go_num, HE4.out⟩
        case measure => simp [intOf]; omega
      · by_cases h5 : o.kind = 5
        · rw [h5] at q0
          go_wp2_with fail
          go_roundw
          case rel => exact ⟨k + 1, by omega, rfl, by go_num, HE4.out⟩
          case measure => simp [intOf]; omega
        · have hq0 : o.q = ⟨#[]⟩ := by rcases Hqk.out with h | h | h
                                       · exact absurd h h4
                                       · exact absurd h h5
                                       · exact h
          rw [hq0] at q2 hol
          have HE6 := Lib.hid (HE5.out hq0)
          have b4 : (o.kind != 4) = true := by simp [h4]
          have b5 : (o.kind != 5) = true := by simp [h5]
          clear HE5 HE4 h4 h5 hq0
          generalize o.kind = κ at *
          go_wp2_with fail
          go_roundw
          case rel => exact ⟨k + 1, by omega, rfl, by go_num, HE6.out⟩
          case measure => simp [intOf]; omega
    · have hke : k = ds.length := by omega
      subst hke
      have hO1 := hR.fix (litB 111)
      have hO2 := hO1.fix (litB 45)
      have e1 : (wr.alloc (litB 111)).heap.size = wr.heap.size + 1 := by simp
      rw [e1] at hO2
      have hO3 := hO2.alloc (.cells #[] 5)
      have e2 : ((wr.alloc (litB 111)).alloc (litB 45)).heap.size = wr.heap.size + 2 := by simp
      have hrp := repeat_zero ((wr.alloc (litB 111)).alloc (litB 45)) (.slice (some ⟨wr.heap.size + 1, 0, none⟩) 1 1)
      rw [e2] at hrp
      have hm1 : (wr.heap.size, litB 111) ∈ (wr.heap.size + 1, litB 45) :: (wr.heap.size, litB 111) :: W0.maps := List.mem_cons_of_mem _ (List.mem_cons_self ..)
      have hb63 : ¬ ((ds.length : Int) < (ds.length : Int)) := Int.lt_irrefl _
      obtain ⟨w4, hw4⟩ : ∃ w4, w4 = (((wr.alloc (litB 111)).alloc (litB 45)).alloc (.cells #[] 5)) := ⟨_, rfl⟩
      rw [← hw4] at hO3 hrp
      obtain ⟨n0, hn0⟩ : ∃ n0, n0 = wr.heap.size := ⟨_, rfl⟩
      have hpk := pack_ops (W0 := ⟨W0.world, (wr.heap.size + 1, litB 45) :: (wr.heap.size, litB 111) :: W0.maps⟩) (w := w4) (L := rowO (.slice (some ⟨g, 0, none⟩) ds.length cp) ds :: (L1 ++ L)) hO3 (a := some ⟨g, 0, none⟩) (ops := ops) ⟨fun w' L' k1 k2 i hi => ⟨g, 0, rfl, fun j u hj => by
          have hj4 : j < 4 := by
            have := (List.getElem?_eq_some_iff.1 hj).1
            exact this
          have hil : i < ds.length := by rw [← Hdl.out]; exact hi
          have h6 := Own.cell (h := (show Own _ w' (⟨84, 4, .slice (some ⟨g, 0, none⟩) ds.length cp, ds.length, (ds.map OpD.cells).flatten⟩ :: []) from k1.only (k2 _ (List.mem_cons_self ..)))) (i * 4 + j) (by omega)
          rw [Nat.zero_add, h6, flatO ds i j hil hj4]
          have : ds[i] = (ops[i]).1 := by simp [Hds.out]
          rw [this]; exact hj⟩,
        fun w' L' k1 k2 o ho => HP.out.data w' L' (Own.unfix (M := [(wr.heap.size + 1, litB 45), (wr.heap.size, litB 111)]) k1) (fun x hx => k2 x (List.mem_cons_of_mem _ (List.mem_append_right _ hx))) o ho, HP.out.kind, HP.out.len⟩ cp (by rw [Hdl.out]; exact hn2)
      rw [Hdl.out] at hpk
      have hpl := packsD_len ops HP.out.len
      rw [Hdl.out] at hpl
      have hcat := fun (w5 : World) (vp : Value) (L2 : List Rw) (h5 : Own ⟨W0.world, (wr.heap.size + 1, litB 45) :: (wr.heap.size, litB 111) :: W0.maps⟩ w5 (rowU vp (packsD ops) :: (L2 ++ rowO (.slice (some ⟨g, 0, none⟩) ds.length cp) ds :: (L1 ++ L)))) (hbz : Byts (packsD ops)) =>
        concat_anyB (some ⟨w5.heap.size, 0, none⟩) 3 [(.slice (some ⟨wr.heap.size, 0, none⟩) 1 1, [111]), (.slice (some ⟨wr.heap.size + 2, 0, none⟩) 0 0, []), (vp, packsD ops)] (w5.alloc (.cells #[.slice (some ⟨wr.heap.size, 0, none⟩) 1 1, .slice (some ⟨wr.heap.size + 2, 0, none⟩) 0 0, vp] 82)) (fun i hi => by
          have h6 := h5.alloc (.cells #[.slice (some ⟨wr.heap.size, 0, none⟩) 1 1, .slice (some ⟨wr.heap.size + 2, 0, none⟩) 0 0, vp] 82)
          refine ⟨w5.heap.size, 0, rfl, ?_, ?_⟩
          · rw [Nat.zero_add, World.cell?_alloc_new]
            match i, hi with
            | 0, _ => rfl
            | 1, _ => rfl
            | 2, _ => rfl
            | n + 3, h => exact absurd h (by simp)
          · match i, hi with
            | 0, _ => exact lit_by (h6.maps _ hm1).2 (by decide) (by decide)
            | 1, _ => exact ⟨.inr ⟨_, _, rfl, fun j u hj => by simp [bs] at hj, fun u hu => by cases hu⟩, Byts.nil, _, _, rfl, by simp, by unfold maxLen; omega⟩
            | 2, _ => exact h6.by hbz
            | n + 3, h => exact absurd h (by simp)) (by unfold maxLen; simp) (by simp [allOf]; omega)
      have Hcat := Lib.hid hcat
      have Hall := Lib.hid (show Own W0 w4 ((rowO (.slice (some ⟨g, 0, none⟩) ds.length cp) ds :: L1) ++ L) from Own.unfix (M := [(wr.heap.size + 1, litB 45), (wr.heap.size, litB 111)]) hO3)
      have hcs1 := conv_constL wr #[.int .u8 111] 1 1
      have hcs2 := conv_constL (wr.alloc (.cells #[.int .u8 111] 5 (1, 2))) #[.int .u8 45] 1 1
      have e3 : (wr.alloc (.cells #[.int .u8 111] 5 (1, 2))).heap.size = wr.heap.size + 1 := by simp
      rw [e3] at hcs2
      clear hcat hpl hO1 hO2 hO3 hR HR0 e1 e2 e3 hm1 hcs
      change Calls Tryz.prog 148 #[.slice (some ⟨wr.heap.size + 1, 0, none⟩) 1 1, .int .i64 0] ((wr.alloc (.cells #[.int .u8 111] 5 (1, 2))).alloc (.cells #[.int .u8 45] 5 (1, 2))) _ at hrp
      go_wp2_with fail
      refine hrp.mono ?_
      rintro e w' ⟨rfl, hw5⟩
      have hw6 : w' = w4 := hw5.trans (by first | rfl | exact hw4.symm)
      subst hw6
      clear hw5 hw4 hcs1 hcs2
      go_wp2_with fail
      refine hpk.mono ?_
      rintro e w5 ⟨vp, L2, rfl, hO5⟩
      obtain ⟨pa, pn, pc, rfl⟩ := hO5.formU
      have hbz : Byts (packsD ops) := packsD_byts ops HP.out.kind HP.out.len fun o ho => ((HP.out.data _ _ Hall.out (fun x hx => List.mem_append_right _ hx)) o ho).2.1
      have hc5 := Hcat.out w5 (.slice pa pn pc) L2 hO5 hbz
      have HO5 := Lib.hid hO5
      clear hrp hpk hO5
      go_wp2_with fail
      refine hc5.mono ?_
      rintro e w6 ⟨vr, rfl, hO6⟩
      have hO7 := (HO5.out.alloc (.cells #[.slice (some ⟨wr.heap.size, 0, none⟩) 1 1, .slice (some ⟨wr.heap.size + 2, 0, none⟩) 0 0, (.slice pa pn pc)] 82)).join hO6
      have hal : allOf [(.slice (some ⟨wr.heap.size, 0, none⟩) 1 1, [111]), (.slice (some ⟨wr.heap.size + 2, 0, none⟩) 0 0, []), (.slice pa pn pc, packsD ops)] = recO ops := by simp [allOf, recO]
      rw [hal] at hO7
      have HP2 := Lib.hid (show Own W0 w6 (rowU vr (recO ops) :: ((rowU (.slice pa pn pc) (packsD ops) :: (L2 ++ rowO (.slice (some ⟨g, 0, none⟩) ds.length cp) ds :: L1)) ++ L)) from Own.unfix (M := [(wr.heap.size + 1, litB 45), (wr.heap.size, litB 111)]) (by simpa using hO7))
      clear hO7 hal hO6 hc5 HO5 Hall Hcat
      go_wp2_with fail
      go_ret
      exact ⟨_, _, rfl, HP2.out⟩
end Go.Proofs.YtnjabanjgckeoaaGreatDoor
end
