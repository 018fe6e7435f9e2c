/- Texts one behind the other, each in a section of its own: what calls make of memory, step by step. -/
import Derived.Test.YtdjoahhcmkedhaaGreatDoorPackTreeBad6

/- do, of whatever operation, against the plain state. -/
section
namespace Go.Proofs.YtdjoahhcmkedhaaGreatDoor
open Go.RowKit
open Go.ChangeMaps (setBlock)
set_option linter.unusedVariables false
set_option linter.unusedSimpArgs false
set_option maxRecDepth 100000

/-- What an operation tells (0: it was done), and what it makes of a tree. -/
def stepE (E : Et) (o : OpE) : Int × Et :=
  if o.kind < 0 ∨ 6 < o.kind then (1, E) else
  match placeE E o.l with
  | (c, none) => (c, E)
  | (_, some (j, nd, z)) =>
    if 3500 < o.zs.length then (6, E) else
    match look nd.kids (toB z) with
    | none => if o.kind = 0 then (0, mkdirE E j nd (toB z)) else if o.kind = 2 then (0, createE E j nd (toB z) o.zs) else (8, E)
    | some i =>
      if o.kind = 0 ∨ o.kind = 2 then (9, E) else
      match look E.nodes i with
      | none => (0, E)
      | some f =>
        if o.kind = 1 then (if f.dir = true then (if f.kids.isEmpty = true then (0, rmdirE E j nd (toB z) i) else (12, E)) else (11, E))
        else if f.dir = true then (10, E)
        else if o.kind = 3 then (0, { E with nodes := put E.nodes i { f with data := o.zs } })
        else if o.kind = 6 then (0, takeEx E j (toB z))
        else match placeE E o.l2 with
          | (c, none) => (c, E)
          | (_, some (jb, ndb, zb)) => match look ndb.kids (toB zb) with
            | none => if o.kind = 4 then (0, putEx E jb (toB zb) i) else (0, putEx (takeEx E j (toB z)) jb (toB zb) i)
            | some old => if o.kind = 4 then (9, E) else match look E.nodes old with
              | none => (0, E)
              | some fo => if fo.dir = true then (10, E) else if old = i then (0, E) else (0, putEx (takeEx (takeEx E jb (toB zb)) j (toB z)) jb (toB zb) i)
theorem placeE_bad {E : Et} {l : List UInt8} {c : Int} (h : placeE E l = (c, none)) : c = 14 ∨ c = 8 ∨ c = 11 := by
  unfold placeE at h
  repeat' split at h
  all_goals first
    | (injection h with h _; subst h; decide)
    | (injection h with _ h; cases h)
theorem placeE_good {E : Et} {l : List UInt8} {c j : Int} {nd : ENd} {z : List UInt8} (h : placeE E l = (c, some (j, nd, z))) : c = 0 ∧ look E.nodes j = some nd ∧ nd.dir = true := by
  unfold placeE at h
  repeat' split at h
  all_goals first
    | (injection h with _ h; cases h; done)
    | skip
  rename_i h1 _ _ h2 h3
  injection h with e1 e2
  injection e2 with e2
  injection e2 with e2 e3
  injection e3 with e3 e4
  subst e1 e2 e3
  exact ⟨rfl, h2, h3⟩
theorem Rep.place_bad {T : Tr} {E : Et} (h : Rep T E) (hd : (T.nodes.map (·.1)).Nodup) {l : List UInt8} {c : Int} (hp : placeE E l = (c, none)) : placeT T l = (c, none) := by
  unfold placeE at hp
  unfold placeT
  cases h1 : (namesL l).getLast? with
  | none =>
    rw [h1] at hp
    have hp' : ((14 : Int), (none : Option (Int × ENd × List UInt8))) = (c, none) := hp
    obtain ⟨rfl, _⟩ := Prod.mk.inj hp'
    rfl
  | some z2 =>
    rw [h1] at hp
    rw [h.walk hd]
    simp only at hp ⊢
    cases h2 : walkE E 1 (namesL l).dropLast with
    | none => rw [h2] at hp; simpa using hp
    | some j2 =>
      rw [h2] at hp
      simp only at hp ⊢
      have hl := h.look hd j2
      cases h3 : Go.Proofs.YtdjoahhcmkedhaaGreatDoor.look T.nodes j2 with
      | none => rw [h3] at hl; rw [← hl] at hp; simpa using hp
      | some nd =>
        rw [h3] at hl
        rw [← hl] at hp
        simp only [Option.map_some] at hp ⊢
        have e : nd.er.dir = nd.k.isSome := rfl
        rw [e] at hp
        cases h4 : nd.k with
        | none => rw [h4] at hp; simpa using hp
        | some k => rw [h4] at hp; simp at hp
theorem Rep.rm {T : Tr} {E : Et} (h : Rep T E) (hd : (T.nodes.map (·.1)).Nodup) (j : Int) (nd : Nd) (name : ByteArray) (i : Int) : Rep (rmT T j nd name i) (rmdirE E j nd.er name i) := by
  have h2 := h.setN hd j { nd with kids := del nd.kids name }
  have k2 := setN_nodup hd j { nd with kids := del nd.kids name }
  refine ⟨h.quota, h.next, ?_⟩
  show (erL (del (T.setN j { nd with kids := del nd.kids name }).nodes i)).Perm _
  have e : erL (del (T.setN j { nd with kids := del nd.kids name }).nodes i) = del (erL (T.setN j { nd with kids := del nd.kids name }).nodes) i := del_map Nd.er _ i
  rw [e]
  exact del_perm h2.nodes (by rw [erL_keys]; exact k2) i
theorem Rep.node {T : Tr} {E : Et} (h : Rep T E) (hd : (T.nodes.map (·.1)).Nodup) {i : Int} {ef : ENd} (he : Go.Proofs.YtdjoahhcmkedhaaGreatDoor.look E.nodes i = some ef) : ∃ f, Go.Proofs.YtdjoahhcmkedhaaGreatDoor.look T.nodes i = some f ∧ f.er = ef := by
  have hl := h.look hd i
  rw [he] at hl
  cases hf : Go.Proofs.YtdjoahhcmkedhaaGreatDoor.look T.nodes i with
  | none => rw [hf] at hl; cases hl
  | some f => rw [hf] at hl; injection hl with hl; exact ⟨f, rfl, hl⟩
theorem stepE_inv {E : Et} {B : Nat} (h : Inv E B) (o : OpE) : Inv (stepE E o).2 (B + 1) := by
  have hs := h.mono (Nat.le_succ B)
  unfold stepE
  split
  · exact hs
  split
  · exact hs
  rename_i c j nd z hp
  obtain ⟨_, hj, hnd⟩ := placeE_good hp
  split
  · exact hs
  rename_i hlen
  have hz : o.zs.length ≤ 3500 := by omega
  split
  · rename_i hx
    split
    · exact h.mkdir hj hnd hx
    · split
      · exact h.create hj hnd hx hz
      · exact hs
  · rename_i i hx
    split
    · exact hs
    split
    · exact hs
    rename_i f hi
    split
    · split
      · rename_i hf
        split
        · rename_i hk
          exact (h.rm hj hx hi hf (List.isEmpty_iff.1 hk)).mono (Nat.le_succ B)
        · exact hs
      · exact hs
    split
    · exact hs
    rename_i hf
    have hf2 : f.dir = false := by simpa using hf
    split
    · exact h.write hi hf2 hz
    split
    · exact (h.take hj hx hi hf2).mono (Nat.le_succ B)
    split
    · exact hs
    rename_i c2 jb ndb zb hp2
    obtain ⟨_, hjb, hndb⟩ := placeE_good hp2
    have htk : ∀ {a : Int} {n : ENd}, look E.nodes a = some n → n.dir = true → ∃ n', look (takeEx E j (toB z)).nodes a = some n' ∧ n'.dir = true ∧ (∀ s, look n.kids s = none → look n'.kids s = none) := fun {a n} ha hn => by
      unfold takeEx
      simp only [hj, hx, hi]
      rw [look_put, look_put]
      by_cases e1 : a = j
      · rw [if_pos e1]
        rw [e1, hj] at ha; injection ha with ha
        refine ⟨_, rfl, by rw [← ha] at hn; exact hn, fun s hs => ?_⟩
        show look (del nd.kids (toB z)) s = none
        rw [← ha] at hs
        by_cases e : s = toB z
        · rw [e]; exact look_del_same (h.names j nd hj) _
        · rw [look_del_ne e]; exact hs
      · rw [if_neg e1]
        by_cases e2 : a = i
        · rw [e2, hi] at ha; injection ha with ha; rw [← ha, hf2] at hn; cases hn
        · rw [if_neg e2]; exact ⟨n, ha, hn, fun s hs => hs⟩
    have hti : look (takeEx E j (toB z)).nodes i = some { f with places := f.places - 1 } := by
      have hij : i ≠ j := fun e => by rw [e, hj] at hi; injection hi with hi; rw [hi, hf2] at hnd; cases hnd
      unfold takeEx
      simp only [hj, hx, hi]
      rw [look_put, look_put, if_neg hij, if_pos rfl]
    split
    · rename_i hxb
      split
      · exact h.put (Nat.le_succ B) (by have := h.ents; omega) hjb hndb hxb hi hf2
      · have h2 := h.take hj hx hi hf2
        obtain ⟨n', g1, g2, g3⟩ := htk hjb hndb
        exact h2.put (Nat.le_succ B) (by have := h2.ents; omega) g1 g2 (g3 _ hxb) hti hf2
    · rename_i old hxb
      split
      · exact hs
      split
      · exact hs
      rename_i fo ho
      split
      · exact hs
      rename_i hfo
      have hfo2 : fo.dir = false := by simpa using hfo
      split
      · exact hs
      rename_i hne
      -- over another file
      have h1 := h.take hjb hxb ho hfo2
      have hlk1 : ∀ a, look (takeEx E jb (toB zb)).nodes a = if a = jb then some { ndb with kids := del ndb.kids (toB zb) } else if a = old then some { fo with places := fo.places - 1 } else look E.nodes a := fun a => by
        unfold takeEx
        simp only [hjb, hxb, ho]
        rw [look_put, look_put]
      have hij : i ≠ j := fun e => by rw [e, hj] at hi; injection hi with hi; rw [hi, hf2] at hnd; cases hnd
      have hijb : i ≠ jb := fun e => by rw [e, hjb] at hi; injection hi with hi; rw [hi, hf2] at hndb; cases hndb
      have hoj : old ≠ j := fun e => by rw [e, hj] at ho; injection ho with ho; rw [ho, hfo2] at hnd; cases hnd
      have hi1 : look (takeEx E jb (toB zb)).nodes i = some f := by rw [hlk1, if_neg hijb, if_neg (Ne.symm hne)]; exact hi
      obtain ⟨nd1, g1, g2, g3⟩ : ∃ nd1, look (takeEx E jb (toB zb)).nodes j = some nd1 ∧ nd1.dir = true ∧ look nd1.kids (toB z) = some i := by
        rw [hlk1]
        by_cases e : j = jb
        · rw [if_pos e]
          have e2 : ndb = nd := by rw [e, hjb] at hj; injection hj
          refine ⟨_, rfl, hndb, ?_⟩
          show look (del ndb.kids (toB zb)) (toB z) = some i
          have e3 : toB z ≠ toB zb := fun e3 => by rw [e2, ← e3, hx] at hxb; injection hxb with hxb; exact hne hxb.symm
          rw [look_del_ne e3, e2]; exact hx
        · rw [if_neg e, if_neg (Ne.symm hoj)]; exact ⟨nd, hj, hnd, hx⟩
      have h2 := h1.take g1 g3 hi1 hf2
      have hlk2 : ∀ a, look (takeEx (takeEx E jb (toB zb)) j (toB z)).nodes a = if a = j then some { nd1 with kids := del nd1.kids (toB z) } else if a = i then some { f with places := f.places - 1 } else look (takeEx E jb (toB zb)).nodes a := fun a => by
        have : takeEx (takeEx E jb (toB zb)) j (toB z) = { takeEx E jb (toB zb) with nodes := Go.Proofs.YtdjoahhcmkedhaaGreatDoor.put (Go.Proofs.YtdjoahhcmkedhaaGreatDoor.put (takeEx E jb (toB zb)).nodes i { f with places := f.places - 1 }) j { nd1 with kids := del nd1.kids (toB z) } } := by
          generalize takeEx E jb (toB zb) = E1 at *
          unfold takeEx
          simp only [g1, g3, hi1]
        rw [this]
        show look (Go.Proofs.YtdjoahhcmkedhaaGreatDoor.put (Go.Proofs.YtdjoahhcmkedhaaGreatDoor.put (takeEx E jb (toB zb)).nodes i { f with places := f.places - 1 }) j { nd1 with kids := del nd1.kids (toB z) }) a = _
        rw [look_put, look_put]
      have hti2 : look (takeEx (takeEx E jb (toB zb)) j (toB z)).nodes i = some { f with places := f.places - 1 } := by rw [hlk2, if_neg hij, if_pos rfl]
      have hnmb := h.names jb ndb hjb
      obtain ⟨ndb2, k1, k2, k3⟩ : ∃ n, look (takeEx (takeEx E jb (toB zb)) j (toB z)).nodes jb = some n ∧ n.dir = true ∧ look n.kids (toB zb) = none := by
        rw [hlk2]
        by_cases e : jb = j
        · rw [if_pos e]
          refine ⟨_, rfl, g2, ?_⟩
          show look (del nd1.kids (toB z)) (toB zb) = none
          have e1 : nd1 = { ndb with kids := del ndb.kids (toB zb) } := by
            have := g1
            rw [hlk1, if_pos e.symm] at this
            injection this with this
            exact this.symm
          have e4 : look nd1.kids (toB zb) = none := by rw [e1]; exact look_del_same hnmb _
          by_cases e3 : toB zb = toB z
          · rw [e3]; exact look_del_same (h1.names j nd1 g1) _
          · rw [look_del_ne e3]; exact e4
        · rw [if_neg e, if_neg (Ne.symm hijb), hlk1, if_pos rfl]
          exact ⟨_, rfl, hndb, look_del_same hnmb _⟩
      exact h2.put (Nat.le_succ B) (by have := h2.ents; omega) k1 k2 k3 hti2 hf2
set_option maxHeartbeats 2000000 in
theorem do_total {w0 w : World} {S : Blocks} {L : List Rw} {t : Nat} {T : Tr} {E : Et} {B : Nat} (hO : Own ⟨w0, S⟩ w L) (H : Tree S (Pc L) t T) (hR : Rep T E) (I : Inv E B) (hB : B ≤ 100000000) (hm : Mx w) (κ : Int) (p q : ByteArray) (hp : p.size ≤ maxLen) (hq : q.size ≤ maxLen) {va : Option Addr} {vc : Nat} {zs : List Int} (hv : Byo w0 S (t :: T.foot) L (.slice va zs.length vc) zs) {c0 : Int} {E' : Et} (hE : stepE E ⟨κ, p.data.toList, q.data.toList, zs⟩ = (c0, E')) :
    Calls Tryz.prog 34 #[.pointer (some ⟨t, 0, none⟩), .agg (opL κ p q (.slice va zs.length vc)).toArray] w (DoL w0 S L t T w (fun T' => Rep T' E') (.int .i64 c0)) := by
  have hd := H.good.keys
  have hsame : ∀ {T' : Tr}, T' = T → Rep T' E := fun e => by rw [e]; exact hR
  have hn1 : 2 ≤ T.next := by have := I.first; rw [hR.next]; omega
  have hn2 : T.next ≤ 1000000000 := by have := I.nx; rw [hR.next]; omega
  have hfl : ∀ {i : Int} {ef : ENd}, look E.nodes i = some ef → ef.dir = false → ∃ f, Fl T i f ∧ f.er = ef := fun {i ef} h1 h2 => by
    have h3 := (I.file i ef h1 h2).2
    have h4 := refs_le E.nodes i
    have h5 := I.ents
    exact hR.file hd h1 h2 (by omega) (by omega)
  unfold stepE at hE
  simp only at hE
  split at hE
  · rename_i hk
    obtain ⟨rfl, rfl⟩ := Prod.mk.inj hE
    exact (do_kind hO H κ hk p q).mono fun e w2 hd2 => hd2.imp fun T' e1 => hsame e1
  rename_i hk
  have k0 : ¬ κ < 0 := fun h => hk (.inl h)
  have k6 : ¬ 6 < κ := fun h => hk (.inr h)
  split at hE
  · rename_i c1 hpl
    have hc := hR.place_bad hd hpl
    obtain ⟨rfl, rfl⟩ := Prod.mk.inj hE
    refine (do_bad hO H hm κ k0 k6 p q hp hc ?_).mono fun e w2 hd2 => hd2.imp fun T' e1 => hsame e1
    rcases placeE_bad hpl with rfl | rfl | rfl <;> rfl
  rename_i c9 j en z hpl
  obtain ⟨rfl, hje, hen⟩ := placeE_good hpl
  obtain ⟨nd, k, hc, ha, her⟩ := hR.place hd hpl
  have hkids : nd.kids = en.kids := congrArg ENd.kids her
  split at hE
  · rename_i hlen
    obtain ⟨rfl, rfl⟩ := Prod.mk.inj hE
    exact (do_long hO H hm κ k0 k6 p q hp (by exact_mod_cast hlen) hc ha).mono fun e w2 hd2 => hd2.imp fun T' e1 => hsame e1
  rename_i hlen0
  have hlen : zs.length ≤ 3500 := by omega
  have hlenI : ¬ (3500 : Int) < (zs.length : Int) := by omega
  have hl2 : zs.length ≤ 140737488355328 := by omega
  split at hE
  · rename_i hx
    rw [← hkids] at hx
    split at hE
    · rename_i h0
      subst h0
      obtain ⟨rfl, rfl⟩ := Prod.mk.inj hE
      exact do_grow0 hO H hm p q hp hlen hc ha hx fun S' w' h1 h2 _ _ => (growDir_any h1 h2 ha.there ha.dir (toB z) p q _ ⟨_, _, _, rfl⟩ hn1 hn2).mono fun e w2 hd2 => hd2.imp fun T' ⟨n, e1, e2⟩ => by
        rw [e2, ← her]; exact hR.mkdir hd (toB z) e1
    · rename_i k00
      split at hE
      · rename_i h0
        subst h0
        obtain ⟨rfl, rfl⟩ := Prod.mk.inj hE
        exact do_grow2 hO H hm p q hp hlen hc ha hx fun S' w' h1 h2 hss _ => (growFile_any h1 h2 ha.there ha.dir (toB z) p q _ zs (hv.mono hss (fun _ _ _ h => h) (fun _ h => h)) hl2 hn1 hn2).mono fun e w2 hd2 => hd2.imp fun T' ⟨n, e1, e2⟩ => by
          rw [e2, ← her]; exact hR.create hd (toB z) e1
      · rename_i k02
        obtain ⟨rfl, rfl⟩ := Prod.mk.inj hE
        exact (do_none hO H hm κ k0 k6 (by simpa using k00) (by simpa using k02) p q hp hlenI hc ha hx).mono fun e w2 hd2 => hd2.imp fun T' e1 => hsame e1
  · rename_i i hx
    have hxe := hx
    rw [← hkids] at hx
    split at hE
    · rename_i h02
      obtain ⟨rfl, rfl⟩ := Prod.mk.inj hE
      exact (do_twice hO H hm κ h02 p q hp hlenI hc ha hx).mono fun e w2 hd2 => hd2.imp fun T' e1 => hsame e1
    rename_i h02
    have k00 : (κ == 0) = false := by simpa using fun h => h02 (.inl h)
    have k02 : (κ == 2) = false := by simpa using fun h => h02 (.inr h)
    split at hE
    · rename_i hef
      obtain ⟨m, hm1, _⟩ := I.kids j en hje _ (look_mem hxe)
      rw [hef] at hm1; cases hm1
    rename_i ef hef
    obtain ⟨f, hfi, hfe⟩ := hR.node hd hef
    split at hE
    · rename_i h1
      subst h1
      split at hE
      · rename_i hdir
        have hfk : f.k.isSome = true := (congrArg ENd.dir hfe).trans hdir
        obtain ⟨kf, hkf⟩ := Option.isSome_iff_exists.1 hfk
        have hfkids : f.kids = ef.kids := congrArg ENd.kids hfe
        split at hE
        · rename_i hemp
          have hke := List.isEmpty_iff.1 hemp
          obtain ⟨hi1, hlone⟩ := I.lone hje hxe hef hdir
          have hno : ∀ x ∈ (T.setN j { nd with kids := del nd.kids (toB z) }).nodes, ∀ y ∈ x.2.kids, y.2 ≠ i := fun x hx y hy => by
            have h3 := (hR.setN hd j { nd with kids := del nd.kids (toB z) }).nodes.subset (er_mem hx)
            rw [show ({ nd with kids := del nd.kids (toB z) } : Nd).er = { en with kids := del en.kids (toB z) } by unfold Nd.er at her ⊢; rw [← her]] at h3
            exact refs_zero hlone h3 hy
          obtain ⟨rfl, rfl⟩ := Prod.mk.inj hE
          exact do_rm hO H hm p q hp hlenI hc ha hx fun S' w' h1 h2 => (rmdir_ok h1 h2 ha (toB z) hfi hkf (hfkids.trans hke) hi1 hno).mono fun e w2 hd2 => hd2.imp fun T' e1 => by
            rw [e1, ← her]; exact hR.rm hd j nd (toB z) i
        · rename_i hemp
          have hpos : 0 < f.kids.length := by
            rw [hfkids]
            exact List.length_pos_iff.2 fun e => hemp (by rw [e]; rfl)
          obtain ⟨rfl, rfl⟩ := Prod.mk.inj hE
          exact (do_rm hO H hm p q hp hlenI hc ha hx fun S' w' h1 h2 => rmdir_busy h1 h2 (toB z) hfi hkf hpos).mono fun e w2 hd2 => hd2.imp fun T' e1 => hsame e1
      · rename_i hdir
        have hfk : f.k = none := by
          have : f.k.isSome = ef.dir := congrArg ENd.dir hfe
          cases hk2 : f.k with
          | none => rfl
          | some k => rw [hk2] at this; exact absurd this.symm hdir
        obtain ⟨rfl, rfl⟩ := Prod.mk.inj hE
        exact (do_rm hO H hm p q hp hlenI hc ha hx fun S' w' h1 h2 => rmdir_file h1 h2 (toB z) hfi hfk).mono fun e w2 hd2 => hd2.imp fun T' e1 => hsame e1
    rename_i k01
    have k01 : (κ == 1) = false := by simpa using k01
    split at hE
    · rename_i hdir
      obtain ⟨rfl, rfl⟩ := Prod.mk.inj hE
      exact (do_isdir hO H hm κ k0 k6 k00 k01 k02 p q hp hlenI hc ha hx hfi ((congrArg ENd.dir hfe).trans hdir)).mono fun e w2 hd2 => hd2.imp fun T' e1 => hsame e1
    rename_i hdir
    have hdir2 : ef.dir = false := by simpa using hdir
    obtain ⟨f', g, hfe'⟩ := hfl hef hdir2
    have hff : f' = f := by have := g.there; rw [hfi] at this; injection this with this; exact this.symm
    subst hff
    have hp1 : 1 ≤ f'.places := by
      have h1 : f'.places = ef.places := congrArg ENd.places hfe
      have h2 := (I.file i ef hef hdir2).2
      have h3 := refs_pos (look_mem hje) (look_mem hxe)
      rw [h1, h2]; exact_mod_cast h3
    split at hE
    · rename_i h0
      subst h0
      obtain ⟨rfl, rfl⟩ := Prod.mk.inj hE
      exact do_turn3 hO H hm p q hp hlen hc ha hx g fun S' w' h1 h2 hss _ => (turn_write h1 h2 g p q _ zs (hv.mono hss (fun _ _ _ h => h) (fun _ h => h)) hl2).mono fun e w2 hd2 => hd2.imp fun T' ⟨f2, e1, e2⟩ => by
        rw [e2]; exact hR.write hd i (by rw [e1, hfe])
    rename_i k03
    split at hE
    · rename_i h0
      subst h0
      obtain ⟨rfl, rfl⟩ := Prod.mk.inj hE
      exact do_turn6 hO H hm p q hp hlen hc ha hx g fun S' w' h1 h2 _ _ => (turn_unlink h1 h2 ha hx g p q _ ⟨_, _, _, rfl⟩).mono fun e w2 hd2 => hd2.imp fun T' e1 => by
        rw [e1]; exact hR.take hd j (toB z)
    rename_i k06
    have h45 : κ = 4 ∨ κ = 5 := by
      simp only [beq_eq_false_iff_ne] at k00 k01 k02
      omega
    split at hE
    · rename_i c2 hpl2
      have hc2 := hR.place_bad hd hpl2
      have hc20 : (c2 != 0) = true := by rcases placeE_bad hpl2 with rfl | rfl | rfl <;> rfl
      rcases h45 with rfl | rfl
      · obtain ⟨rfl, rfl⟩ := Prod.mk.inj hE
        exact (do_turn4 hO H hm p q hp hlen hc ha hx g fun S' w' h1 h2 _ hm2 => turn_bad h1 h2 hm2 (.inl rfl) p q hq _ ⟨_, _, _, rfl⟩ hc2 hc20).mono fun e w2 hd2 => hd2.imp fun T' e1 => hsame e1
      · obtain ⟨rfl, rfl⟩ := Prod.mk.inj hE
        exact (do_turn5 hO H hm p q hp hlen hc ha hx g fun S' w' h1 h2 _ hm2 => turn_bad h1 h2 hm2 (.inr rfl) p q hq _ ⟨_, _, _, rfl⟩ hc2 hc20).mono fun e w2 hd2 => hd2.imp fun T' e1 => hsame e1
    rename_i c2 jb enb zb hplb
    obtain ⟨rfl, hjbe, henb⟩ := placeE_good hplb
    obtain ⟨ndb, kb, hcb, hab, herb⟩ := hR.place hd hplb
    have hkidsb : ndb.kids = enb.kids := congrArg ENd.kids herb
    split at hE
    · rename_i hxb
      rw [← hkidsb] at hxb
      split at hE
      · rename_i h0
        subst h0
        obtain ⟨rfl, rfl⟩ := Prod.mk.inj hE
        exact do_turn4 hO H hm p q hp hlen hc ha hx g fun S' w' h1 h2 _ hm2 => (turn_link h1 h2 hm2 p q hq _ ⟨_, _, _, rfl⟩ hcb fun S3 w3 h3 h4 => link_ok h3 h4 hab.there hab.dir (toB zb) hxb g.there g.file g.low g.high).mono fun e w2 hd2 => hd2.imp fun T' e1 => by
          rw [e1, ← putTx_of (toB zb) hab.there g.there]; exact hR.put hd jb (toB zb) i
      · rename_i h0
        obtain rfl : κ = 5 := h45.resolve_left h0
        obtain ⟨rfl, rfl⟩ := Prod.mk.inj hE
        exact do_turn5 hO H hm p q hp hlen hc ha hx g fun S' w' h1 h2 _ hm2 => (turn_rename h1 h2 hm2 p q hq _ ⟨_, _, _, rfl⟩ hcb fun S3 w3 h3 h4 => rename_free h3 h4 ha hab hx g hp1 hxb).mono fun e w2 hd2 => hd2.imp fun T' e1 => by
          rw [e1]; exact (hR.take hd j (toB z)).put (takeTx_nodup hd j (toB z)) jb (toB zb) i
    · rename_i old hxb
      have hxbe := hxb
      rw [← hkidsb] at hxb
      split at hE
      · rename_i h0
        subst h0
        obtain ⟨rfl, rfl⟩ := Prod.mk.inj hE
        exact (do_turn4 hO H hm p q hp hlen hc ha hx g fun S' w' h1 h2 _ hm2 => turn_link h1 h2 hm2 p q hq _ ⟨_, _, _, rfl⟩ hcb fun S3 w3 h3 h4 => link_twice h3 h4 hab.there hab.dir (toB zb) i hxb).mono fun e w2 hd2 => hd2.imp fun T' e1 => hsame e1
      rename_i h0
      obtain rfl : κ = 5 := h45.resolve_left h0
      split at hE
      · rename_i hefo
        obtain ⟨m, hm1, _⟩ := I.kids jb enb hjbe _ (look_mem hxbe)
        rw [hefo] at hm1; cases hm1
      rename_i efo hefo
      obtain ⟨fo, hfoi, hfoe⟩ := hR.node hd hefo
      split at hE
      · rename_i hdo
        obtain ⟨rfl, rfl⟩ := Prod.mk.inj hE
        exact (do_turn5 hO H hm p q hp hlen hc ha hx g fun S' w' h1 h2 _ hm2 => turn_rename h1 h2 hm2 p q hq _ ⟨_, _, _, rfl⟩ hcb fun S3 w3 h3 h4 => rename_still h3 h4 hab hxb hfoi (.inl ⟨(congrArg ENd.dir hfoe).trans hdo, rfl⟩)).mono fun e w2 hd2 => hd2.imp fun T' e1 => hsame e1
      rename_i hdo
      have hdo2 : efo.dir = false := by simpa using hdo
      obtain ⟨fo', go, hfoe'⟩ := hfl hefo hdo2
      split at hE
      · rename_i heq
        obtain ⟨rfl, rfl⟩ := Prod.mk.inj hE
        exact (do_turn5 hO H hm p q hp hlen hc ha hx g fun S' w' h1 h2 _ hm2 => turn_rename h1 h2 hm2 p q hq _ ⟨_, _, _, rfl⟩ hcb fun S3 w3 h3 h4 => rename_still h3 h4 hab hxb go.there (.inr ⟨by rw [go.file]; rfl, heq, rfl⟩)).mono fun e w2 hd2 => hd2.imp fun T' e1 => hsame e1
      · rename_i hne
        obtain ⟨rfl, rfl⟩ := Prod.mk.inj hE
        exact do_turn5 hO H hm p q hp hlen hc ha hx g fun S' w' h1 h2 _ hm2 => (turn_rename h1 h2 hm2 p q hq _ ⟨_, _, _, rfl⟩ hcb fun S3 w3 h3 h4 => rename_over h3 h4 ha hab hx g hp1 hxb go hne).mono fun e w2 hd2 => hd2.imp fun T' e1 => by
          rw [e1]; exact ((hR.take hd jb (toB zb)).take (takeTx_nodup hd jb (toB zb)) j (toB z)).put (takeTx_nodup (takeTx_nodup hd jb (toB zb)) j (toB z)) jb (toB zb) i
end Go.Proofs.YtdjoahhcmkedhaaGreatDoor
end

/- over; Do, of whatever operations. -/
section
namespace Go.Proofs.YtdjoahhcmkedhaaGreatDoor
open Go.RowKit
open Go.ChangeMaps (setBlock)
set_option linter.unusedVariables false
set_option linter.unusedSimpArgs false
set_option maxRecDepth 100000

theorem over_full {w : World} {D : Value → List Int → Prop} {t : Nat} {T : Tr} (H : TreeIn (inW w) D t T) (h1 : 128 < T.nodes.length) :
    Calls Tryz.prog 35 #[.pointer (some ⟨t, 0, none⟩)] w fun e w' => e = .returned (.int .i64 7) ∧ Below w.heap.size w w' := by
  have hn := nodes_any H
  have b1 : (128 < (T.nodes.length : Int)) := by omega
  clear H h1
  generalize T.nodes.length = m at *
  go_enter Tryz.func35, Tryz.ntmps35
  go_wp2_with (go_at_call 24; refine hn.mono ?_; rintro e w' ⟨rfl, rfl⟩)
  go_ret
  exact ⟨rfl, Below.refl _ w⟩
set_option maxHeartbeats 1000000 in
theorem over_quota {w : World} {D : Value → List Int → Prop} {t : Nat} {T : Tr} (H : TreeIn (inW w) D t T) (hu : sumT T.nodes ≤ 1000000000) (h1 : T.nodes.length ≤ 128) (h2 : T.quota < (sumT T.nodes : Int)) :
    Calls Tryz.prog 35 #[.pointer (some ⟨t, 0, none⟩)] w fun e w' => e = .returned (.int .i64 13) ∧ Below w.heap.size w w' := by
  have hn := nodes_any H
  have hus := used_any (w := w.drew) (H.later (Below.refl _ w).drew) hu
  have c0 := H.at0.1
  have hS : ∀ w', Below w.heap.size w.drew w' → w'.cell? ⟨t, 0, none⟩ = some (.int .i64 T.quota) := fun w' hb => (H.later ((Below.refl _ w).drew.trans hb)).at0.1
  have b1 : ¬ (128 < (T.nodes.length : Int)) := by omega
  clear H hu h1
  generalize sumT T.nodes = s at *
  generalize T.nodes.length = m at *
  generalize T.quota = qq at *
  go_enter Tryz.func35, Tryz.ntmps35
  go_wp2_with (go_at_call 24; refine hn.mono ?_; rintro e w' ⟨rfl, rfl⟩)
  go_region_held3 (fun w' : World => w'.cell? ⟨t, 0, none⟩ = some (.int .i64 qq)) (first | exact c0 | exact hS _ (Below.refl _ _) | exact hS _ hb3) (first | (go_at_call 25; refine hus.mono ?_; rintro e w3 ⟨rfl, hb3⟩))
  all_goals go_wp2_with fail
  all_goals go_ret
  all_goals exact ⟨rfl, (Below.refl _ w).drew.trans hb3⟩
/-- Of what there is too much: what over tells. -/
def overT (T : Tr) : Int := if 128 < T.nodes.length then 7 else if T.quota < (sumT T.nodes : Int) then 13 else 0
theorem over_any {w : World} {D : Value → List Int → Prop} {t : Nat} {T : Tr} (H : TreeIn (inW w) D t T) (hu : sumT T.nodes ≤ 1000000000) :
    Calls Tryz.prog 35 #[.pointer (some ⟨t, 0, none⟩)] w fun e w' => e = .returned (.int .i64 (overT T)) ∧ Below w.heap.size w w' := by
  unfold overT
  by_cases h1 : 128 < T.nodes.length
  · rw [if_pos h1]; exact over_full H h1
  · rw [if_neg h1]
    by_cases h2 : T.quota < (sumT T.nodes : Int)
    · rw [if_pos h2]; exact over_quota H hu (by omega) h2
    · rw [if_neg h2]; exact over_ok H hu (by omega) (by omega)
/-- The tree is as it was, beside whatever was made. -/
theorem DoL.kept {w0 w w4 : World} {S S4 : Blocks} {L L4 : List Rw} {t : Nat} {T : Tr} {R : Tr → Prop} (r : Value) (hO : Own ⟨w0, S4⟩ w4 L4) (H : Tree S (Pc L) t T) (hs : ∀ b x, (b, x) ∈ S → (b, x) ∈ S4) (hL : ∀ x ∈ L, x ∈ L4) (hR : R T) : DoL w0 S L t T w R r (.returned r) w4 :=
  ⟨S4, L4, T, rfl, hO, hL, H.mono (fun b x _ hx => hs b x hx) (fun v zs h => h.mono hL), ⟨fun b x hb _ => hs b x hb, fun b hb => .inl hb⟩, hR⟩
set_option maxHeartbeats 4000000 in
theorem do_gen {w0 w : World} {S : Blocks} {L : List Rw} {t : Nat} {T : Tr} (hO : Own ⟨w0, S⟩ w L) (H : Tree S (Pc L) t T) (hm : Mx w) (hmx : ∀ S' L' w', Own ⟨w0, S'⟩ w' L' → Mx w') (a : Option Addr) (ops : List OpD) (cap : Nat) (hn : ops.length ≤ 1000000) (code : Nat → Int)
    (hops : ∀ w' S' L', Own ⟨w0, S'⟩ w' L' → (∀ b x, (b, x) ∈ S → (b, x) ∈ S') → (∀ x ∈ L, x ∈ L') → ∀ i (h : i < ops.length), ∃ g off, a = some ⟨g, off, none⟩ ∧ w'.rangeAt g (off + i * 4) ops[i].cells) {P : Nat → Tr → Prop} (hP0 : ∀ T', Same T T' → P 0 T')
    (hstep : ∀ c i (h : i < ops.length) S' L' T' w', (∀ i' < i, code i' = 0) → Own ⟨w0, S'⟩ w' L' → (∀ x ∈ L, x ∈ L') → Tree S' (Pc L') c T' → (∀ b x, (b, x) ∈ S → (b, x) ∈ S') → (∀ b ∈ c :: T'.foot, w.heap.size ≤ b) → P i T' → Mx w' → Calls Tryz.prog 34 #[.pointer (some ⟨c, 0, none⟩), .agg ops[i].cells.toArray] w' (DoL w0 S' L' c T' w' (P (i + 1)) (.int .i64 (code i))))
    {r : Int} {R : Tr → Prop} (hbad : ∀ k < ops.length, code k ≠ 0 → (∀ i < k, code i = 0) → r = code k ∧ R T)
    (hend : (∀ i < ops.length, code i = 0) → ∀ T', P ops.length T' → sumT T'.nodes ≤ 1000000000 ∧ r = overT T' ∧ (r = 0 → R T') ∧ (r ≠ 0 → R T)) :
    Calls Tryz.prog 14 #[.pointer (some ⟨t, 0, none⟩), .slice a ops.length cap] w (DoL w0 S L t T w R (.int .i64 r)) := by
  have hlt : ∀ b x, (b, x) ∈ S → b < w.heap.size := fun b x hb => (hO.atLt hb).2
  have htl : t < w.heap.size := hlt _ _ H.at_.cells
  have hcl := clone_t hO H
  have HT := Lib.hid H
  have HOps := Lib.hid hops
  have HStep := Lib.hid hstep
  have HEnd := Lib.hid hend
  have HBad := Lib.hid hbad
  have HP0 := Lib.hid hP0
  clear hops hstep hend hP0 H hbad
  have hsz0 := hO.size
  clear hO
  go_enter Tryz.func14, Tryz.ntmps14
  go_wp2_with fail
  refine hcl.mono ?_
  rintro e wc ⟨c, S1, T1, rfl, h1, h2, h3, h4, h5⟩
  have hwc : w.heap.size ≤ wc.heap.size := by
    have := (h1.atLt h2.at_.cells).2
    have := h4 c (List.mem_cons_self ..)
    omega
  have HR := Lib.hid (show DoRel w0 S L w c P 0 wc from ⟨S1, L, T1, h1, fun _ h => h, h2, h3, h4, HP0.out _ h5, hmx _ _ _ h1, hwc⟩)
  clear hcl h1 h2 h3 h4 h5 HP0
  go_wp2_with fail
  go_loopw [14] (fun i wr => ∃ k : Nat, k ≤ ops.length ∧ i = .int .i64 k ∧ Hid (∀ i < k, code i = 0) ∧ DoRel w0 S L w c P k wr) (fun i _ => ops.length - (intOf i).toNat)
  case atStart => exact ⟨0, Nat.zero_le _, rfl, Lib.hid (fun i hi => absurd hi (Nat.not_lt_zero _)), HR.out⟩
  case round =>
    obtain ⟨k, hk, rfl, HZ, hR⟩ := hrel
    have HR1 := Lib.hid hR
    obtain ⟨S2, L2, T2, k1, k2, k3, k4, k5, k6, k7, k8⟩ := hR
    by_cases hkl : k < ops.length
    · obtain ⟨g, off, rfl, hr⟩ := HOps.out wr S2 L2 k1 k4 k2 k hkl
      have Hr := Lib.hid hr
      clear hr
      have HO := Lib.hid k1
      obtain ⟨od, hod⟩ : ∃ od, od = ops[k] := ⟨_, rfl⟩
      rw [← hod] at Hr
      have hstep2 := fun S' L' T' w' => HStep.out c k hkl S' L' T' w' HZ.out
      rw [← hod] at hstep2
      have Hs2 := Lib.hid hstep2
      have Hone := Lib.hid (op_one od)
      have hb63 : (k : Int) < (ops.length : Int) := by exact_mod_cast hkl
      clear hstep2 hod
      go_wp2_with (first
        | (refine wpList_load_mid rfl 38 (.tmp 16) rfl g (off + k * 4) rfl od.cells _ Hr.out Tryz.underlying38 rfl (info_op _) ?_)
        | (refine wpList_store_new rfl 38 (.tmp 7) (.tmp 17) rfl HO.out od.cells wr.heap.size rfl rfl rfl rfl (info_op _) Hone.out ?_))
      intro w3 hO3 hlt3
      have Hr2 := Lib.hid (show w3.rangeAt wr.heap.size 0 od.cells from by
        have h1 := Own.range (h := hO3) 0 4
        exact h1)
      have hcall := Hs2.out S2 _ T2 w3 hO3 (fun x hx => List.mem_cons_of_mem _ (k2 x hx)) (k3.mono (fun b x _ hx => hx) (fun v zs h => h.cons _)) k4 k5 k6 (hmx _ _ _ hO3)
      rcases Classical.em (code k = 0) with hck | hck
      · rw [hck] at hcall
        have hfin : ∀ e w4, DoL w0 S2 (⟨38, 4, .slice (some ⟨wr.heap.size, 0, none⟩) 1 1, 1, od.cells⟩ :: L2) c T2 w3 (P (k + 1)) (.int .i64 0) e w4 → e = .returned (.int .i64 0) ∧ DoRel w0 S L w c P (k + 1) w4 := fun e w4 hd => DoRel.step hd (fun x hx => List.mem_cons_of_mem _ (k2 x hx)) k4 k5 hlt (by omega) hmx
        have HF := Lib.hid hfin
        have HZ1 := Lib.hid (show ∀ i < k + 1, code i = 0 from fun i hi => by
          rcases Nat.lt_succ_iff_lt_or_eq.1 hi with h | h
          · exact HZ.out i h
          · rw [h]; exact hck)
        clear hfin hO3 Hr HO Hone Hs2 k1 k2 k3 k4 k5 k6 k7 HR1 HStep HEnd HOps HT HBad HZ hck
        go_wp2_with (refine wpList_load_mid rfl 38 (.tmp 7) rfl wr.heap.size 0 rfl od.cells _ Hr2.out Tryz.underlying38 rfl (info_op _) ?_)
        refine hcall.mono ?_
        rintro e w4 hd
        obtain ⟨rfl, hR4⟩ := HF.out e w4 hd
        have HR4 := Lib.hid hR4
        clear hd hR4 hcall HF Hr2
        go_wp2_with fail
        go_roundw
        case rel => exact ⟨k + 1, by omega, by go_num, HZ1, HR4.out⟩
        case measure => simp [intOf]; omega
      · obtain ⟨hrk, hRT⟩ := HBad.out k hkl hck HZ.out
        have hck0 : (r != 0) = true := by rw [hrk]; simpa using hck
        rw [← hrk] at hcall
        have hfin : ∀ e w4, DoL w0 S2 (⟨38, 4, .slice (some ⟨wr.heap.size, 0, none⟩) 1 1, 1, od.cells⟩ :: L2) c T2 w3 (P (k + 1)) (.int .i64 r) e w4 → e = .returned (.int .i64 r) ∧ DoL w0 S L t T w R (.int .i64 r) (.returned (.int .i64 r)) w4 := fun e w4 hd => by
          obtain ⟨S4, L4, T4, q1, q2, q3, q4, q5, q6⟩ := hd
          exact ⟨q1, DoL.kept _ q2 HT.out (fun b x hb => q5.kept b x (k4 b x hb) fun hb2 => by
            have := hlt b x hb
            have := k5 b hb2
            omega) (fun x hx => q3 x (List.mem_cons_of_mem _ (k2 x hx))) hRT⟩
        have HF := Lib.hid hfin
        clear hfin hO3 Hr HO Hone Hs2 k1 k2 k3 k4 k5 k6 k7 HR1 HStep HEnd HOps HT HBad HZ hck hRT hrk
        go_wp2_with (refine wpList_load_mid rfl 38 (.tmp 7) rfl wr.heap.size 0 rfl od.cells _ Hr2.out Tryz.underlying38 rfl (info_op _) ?_)
        refine hcall.mono ?_
        rintro e w4 hd
        obtain ⟨rfl, hR4⟩ := HF.out e w4 hd
        have HR4 := Lib.hid hR4
        clear hd hR4 hcall HF Hr2
        go_wp2_with fail
        go_ret
        exact HR4.out
    · obtain rfl : k = ops.length := by omega
      obtain ⟨z1, z2, z3, z4⟩ := HEnd.out HZ.out T2 k6
      have hov := over_any (k3.at_.inWorld k1) z1
      rw [← z2] at hov
      have hb63 : ¬ ((ops.length : Int) < (ops.length : Int)) := Int.lt_irrefl _
      have hgen : ∀ w5, Below wr.heap.size wr w5 → (w5.cell? ⟨c, 0, none⟩ = some (.int .i64 T2.quota) ∧ w5.cell? ⟨c, 1, none⟩ = some (.int .i64 T2.next) ∧ w5.cell? ⟨c, 2, none⟩ = some (.map (some T2.bm))) ∧ (w5.frozen? ⟨t, 0, none⟩ = false ∧ w5.frozen? ⟨t, 1, none⟩ = false ∧ w5.frozen? ⟨t, 2, none⟩ = false) ∧ (w5.cell? ⟨t, 0, none⟩ = some (.int .i64 T.quota) ∧ w5.cell? ⟨t, 1, none⟩ = some (.int .i64 T.next) ∧ w5.cell? ⟨t, 2, none⟩ = some (.map (some T.bm))) := by
        intro w5 hb
        have h5 := k1.later hb
        have ht5 := h5.at (k4 _ _ HT.out.at_.cells)
        exact ⟨(k3.at_.inWorld h5).at0, ⟨free_at ht5 0, free_at ht5 1, free_at ht5 2⟩, cell_at ht5 0, cell_at ht5 1, cell_at ht5 2⟩
      have Hgen := Lib.hid hgen
      clear hgen
      rcases Classical.em (r = 0) with hr0 | hr0
      · have z5 := z3 hr0
        clear z3 z4 z2
        subst hr0
        go_wp2_with fail
        refine hov.mono ?_
        rintro e w5 ⟨rfl, hb5⟩
        obtain ⟨⟨a0, a1, a2⟩, ⟨f0, f1, f2⟩, b0, b1, b2⟩ := Hgen.out w5 hb5
        go_wp2_with fail
        go_ret
        have ht5 := k4 _ _ HT.out.at_.cells
        refine ⟨_, L2, T2, rfl, store3 (k1.later hb5) ht5, k2, k3.moved ht5 (fun hm => by have := k5 t (List.mem_cons_of_mem _ hm); omega), ⟨fun b x hb hnb => upd_other (k4 b x hb) (fun e => hnb (e ▸ List.mem_cons_self ..)) _, fun b hb => ?_⟩, z5⟩
        rcases List.mem_cons.1 hb with rfl | hb
        · exact .inl (List.mem_cons_self ..)
        · exact .inr (k5 b (List.mem_cons_of_mem _ hb))
      · have z5 := z4 hr0
        have hr1 : (r != 0) = true := by simpa using hr0
        clear z3 z4 z2 hr0
        go_wp2_with fail
        refine hov.mono ?_
        rintro e w5 ⟨rfl, hb5⟩
        have HK := Lib.hid (show DoL w0 S L t T w R (.int .i64 r) (.returned (.int .i64 r)) w5 from DoL.kept _ (k1.later hb5) HT.out k4 k2 z5)
        clear hov Hgen k1 k2 k3 k4 k5 k6 k7 HR1 HStep HEnd HOps HT HBad HZ z1 z5
        go_wp2_with fail
        go_ret
        exact HK.out
end Go.Proofs.YtdjoahhcmkedhaaGreatDoor
end

/- Do, of whatever operations, against the plain state. -/
section
namespace Go.Proofs.YtdjoahhcmkedhaaGreatDoor
open Go.RowKit
open Go.ChangeMaps (setBlock)
set_option linter.unusedVariables false
set_option linter.unusedSimpArgs false
set_option maxRecDepth 100000

/-- Operations one by one, till the first that is refused. -/
def doS (E : Et) : List OpE → Int × Et
  | [] => (0, E)
  | o :: r => if (stepE E o).1 = 0 then doS (stepE E o).2 r else ((stepE E o).1, E)
def overE (E : Et) : Int := if 128 < E.nodes.length then 7 else if E.quota < (sumE E.nodes : Int) then 13 else 0
/-- Operations all at once, or not at all. -/
def DoE (E : Et) (xs : List OpE) : Int × Et :=
  if (doS E xs).1 = 0 then (if overE (doS E xs).2 = 0 then (0, (doS E xs).2) else (overE (doS E xs).2, E)) else ((doS E xs).1, E)
def stE (E : Et) (xs : List OpE) (i : Nat) : Et := (xs.take i).foldl (fun E o => (stepE E o).2) E
def codeE (E : Et) (xs : List OpE) (i : Nat) : Int := match xs[i]? with
  | some o => (stepE (stE E xs i) o).1
  | none => 0
theorem stE_succ {E : Et} {xs : List OpE} {i : Nat} (h : i < xs.length) : stE E xs (i + 1) = (stepE (stE E xs i) xs[i]).2 := by
  unfold stE
  rw [List.take_succ_eq_append_getElem h, List.foldl_append]; rfl
theorem codeE_at {E : Et} {xs : List OpE} {i : Nat} (h : i < xs.length) : codeE E xs i = (stepE (stE E xs i) xs[i]).1 := by
  unfold codeE
  rw [List.getElem?_eq_getElem h]
theorem codeE_cons (E : Et) (o : OpE) (r : List OpE) (i : Nat) : codeE E (o :: r) (i + 1) = codeE (stepE E o).2 r i := by
  unfold codeE stE
  simp only [List.getElem?_cons_succ, List.take_succ_cons, List.foldl_cons]
theorem doS_ok : ∀ (xs : List OpE) (E : Et), (∀ i < xs.length, codeE E xs i = 0) → doS E xs = (0, stE E xs xs.length) := by
  intro xs
  induction xs with
  | nil => intro E _; rfl
  | cons o r ih =>
    intro E h
    have h0 : (stepE E o).1 = 0 := h 0 (by simp)
    unfold doS
    rw [if_pos h0, ih (stepE E o).2 fun i hi => by rw [← codeE_cons]; exact h (i + 1) (by simp; omega)]
    simp [stE]
theorem doS_bad : ∀ (xs : List OpE) (E : Et) (k : Nat), k < xs.length → codeE E xs k ≠ 0 → (∀ i < k, codeE E xs i = 0) → (doS E xs).1 = codeE E xs k := by
  intro xs
  induction xs with
  | nil => intro E k hk; exact absurd hk (by simp)
  | cons o r ih =>
    intro E k hk hc hz
    unfold doS
    cases k with
    | zero =>
      have h0 : (stepE E o).1 ≠ 0 := hc
      rw [if_neg h0]; rfl
    | succ k =>
      have h0 : (stepE E o).1 = 0 := hz 0 (Nat.succ_pos _)
      rw [if_pos h0, codeE_cons]
      exact ih _ k (by simpa using hk) (by rw [← codeE_cons]; exact hc) fun i hi => by rw [← codeE_cons]; exact hz (i + 1) (by omega)
theorem stE_inv {E : Et} {B : Nat} (h : Inv E B) (xs : List OpE) : ∀ i, Inv (stE E xs i) (B + i) := by
  intro i
  induction i with
  | zero => exact h
  | succ i ih =>
    by_cases hi : i < xs.length
    · rw [stE_succ hi]; exact stepE_inv ih _
    · have : stE E xs (i + 1) = stE E xs i := by
        unfold stE
        rw [List.take_of_length_le (by omega), List.take_of_length_le (by omega)]
      rw [this]; exact ih.mono (by omega)
theorem doS_inv {E : Et} {B : Nat} (h : Inv E B) (xs : List OpE) : Inv (doS E xs).2 (B + xs.length) := by
  induction xs generalizing E B with
  | nil => exact h
  | cons o r ih =>
    unfold doS
    split
    · have := ih (stepE_inv h o)
      exact this.mono (by simp; omega)
    · exact h.mono (by omega)
theorem DoE_inv {E : Et} {B : Nat} (h : Inv E B) (xs : List OpE) : Inv (DoE E xs).2 (B + xs.length) := by
  unfold DoE
  split
  · split
    · exact doS_inv h xs
    · exact h.mono (by omega)
  · exact h.mono (by omega)
theorem stepE_quota (E : Et) (o : OpE) : (stepE E o).2.quota = E.quota := by
  have hp : ∀ (E : Et) j n i, (putEx E j n i).quota = E.quota := fun E j n i => by unfold putEx; split <;> rfl
  have ht : ∀ (E : Et) j n, (takeEx E j n).quota = E.quota := fun E j n => by
    unfold takeEx
    split
    · rfl
    · split
      · rfl
      · split <;> rfl
  unfold stepE
  repeat' split
  all_goals first
    | rfl
    | simp only [hp, ht]
theorem doS_quota (xs : List OpE) : ∀ E, (doS E xs).2.quota = E.quota := by
  induction xs with
  | nil => intro E; rfl
  | cons o r ih =>
    intro E
    unfold doS
    split
    · rw [ih, stepE_quota]
    · rfl
theorem DoE_quota (E : Et) (xs : List OpE) : (DoE E xs).2.quota = E.quota := by
  unfold DoE
  split
  · split
    · exact doS_quota xs E
    · rfl
  · rfl
theorem Rep.over {T : Tr} {E : Et} (h : Rep T E) : overT T = overE E := by
  unfold overT overE
  rw [h.count, h.sum, h.quota]
set_option maxHeartbeats 1000000 in
theorem Do_any {w0 w : World} {S : Blocks} {L : List Rw} {t : Nat} {T : Tr} {E : Et} {B : Nat} (hO : Own ⟨w0, S⟩ w L) (H : Tree S (Pc L) t T) (hR : Rep T E) (I : Inv E B) (hmx : Mx w0) (a : Option Addr) (ops : List OpD) (xs : List OpE) (cap : Nat) (hlen : xs.length = ops.length) (hn : B + ops.length ≤ 200000)
    (hops : ∀ w' S' L', Own ⟨w0, S'⟩ w' L' → (∀ b x, (b, x) ∈ S → (b, x) ∈ S') → (∀ x ∈ L, x ∈ L') → ∀ i (h : i < ops.length), ∃ g off, a = some ⟨g, off, none⟩ ∧ w'.rangeAt g (off + i * 4) ops[i].cells) (hin : ∀ i (h : i < ops.length), OpIn w0 S L ops[i] (xs[i]'(by omega))) :
    Calls Tryz.prog 14 #[.pointer (some ⟨t, 0, none⟩), .slice a ops.length cap] w (DoL w0 S L t T w (fun T' => Rep T' (DoE E xs).2) (.int .i64 (DoE E xs).1)) := by
  have hmx' : ∀ S' L' w', Own ⟨w0, S'⟩ w' L' → Mx w' := fun S' L' w' h => hmx.later h.below
  refine do_gen hO H (hmx' _ _ _ hO) hmx' a ops cap (by omega) (codeE E xs) hops (P := fun i T' => Rep T' (stE E xs i)) (fun T' hs => hR.same hs) (fun c i hi S' L' T' w' hz k1 k2 k3 ks kh hP k5 => ?_) (fun k hk hc hz => ?_) (fun hz T' hP => ?_)
  · have hx : i < xs.length := by omega
    have hi' := hin i hi
    have hdata := hi'.data.mono (F' := c :: T'.foot) ks (fun b x hb _ hm => absurd (kh b hm) (by have := (hO.atLt hb).2; omega)) k2
    have hnn := hi'.n
    have I' := stE_inv I xs i
    have hst := do_total k1 k3 hP I' (by omega) k5 ops[i].kind ops[i].p ops[i].q hi'.p hi'.q (va := ops[i].a) (vc := ops[i].c) (zs := xs[i].zs) (by rw [← hnn]; exact hdata) (c0 := (stepE (stE E xs i) xs[i]).1) (E' := (stepE (stE E xs i) xs[i]).2) (by
      have e : (⟨ops[i].kind, ops[i].p.data.toList, ops[i].q.data.toList, xs[i].zs⟩ : OpE) = xs[i] := by rw [← hi'.kind, ← hi'.l, ← hi'.l2]
      rw [e])
    rw [← hnn] at hst
    rw [codeE_at hx]
    have hst2 := hst.mono fun e w2 hd2 => hd2.imp (R' := fun T2 => Rep T2 (stE E xs (i + 1))) fun T2 hT2 => by rw [stE_succ hx]; exact hT2
    exact hst2
  · have h1 := doS_bad xs E k (by omega) hc hz
    have h2 : (doS E xs).1 ≠ 0 := by rw [h1]; exact hc
    unfold DoE
    rw [if_neg h2]
    exact ⟨h1, hR⟩
  · have h1 := doS_ok xs E (by rw [hlen]; exact hz)
    have I' := stE_inv I xs xs.length
    have hs := I'.sum
    rw [← hlen] at hP
    have ho := hP.over
    rw [← hP.sum] at hs
    unfold DoE
    rw [h1]
    simp only [if_true]
    refine ⟨by omega, ?_, fun hr => ?_, fun hr => ?_⟩
    · rw [ho]
      by_cases h : overE (stE E xs xs.length) = 0
      · rw [if_pos h, h]
      · rw [if_neg h]
    · by_cases h : overE (stE E xs xs.length) = 0
      · rw [if_pos h]; exact hP
      · rw [if_neg h] at hr; exact absurd hr h
    · by_cases h : overE (stE E xs xs.length) = 0
      · rw [if_pos h] at hr; exact absurd rfl hr
      · rw [if_neg h]; exact hR
end Go.Proofs.YtdjoahhcmkedhaaGreatDoor
end

/- free, loadKid: what comes into a tree that is loaded. -/
section
namespace Go.Proofs.YtdjoahhcmkedhaaGreatDoor
open Go.RowKit
open Go.ChangeMaps (setBlock)
set_option linter.unusedVariables false
set_option linter.unusedSimpArgs false
set_option maxRecDepth 100000

def freeT (T : Tr) (i : Int) : Bool := decide (1 < i) && decide (i < T.next) && (look T.nodes i).isNone
theorem free_any {w : World} {D : Value → List Int → Prop} {t : Nat} {T : Tr} (H : TreeIn (inW w) D t T) (i : Int) : Calls Tryz.prog 77 #[.pointer (some ⟨t, 0, none⟩), .int .i64 i] w fun e w' => e = .returned (.bool (freeT T i)) ∧ w = w' := by
  obtain ⟨_, c1, c2⟩ := H.at0
  have hl := H.look i
  have hf : freeT T i = (decide (1 < i) && decide (i < T.next) && (look T.nodes i).isNone) := rfl
  by_cases h1 : 1 < i
  · by_cases h2 : i < T.next
    · rw [decide_eq_true h1, decide_eq_true h2] at hf
      cases hk : look T.nodes i with
      | none =>
        rw [hk] at hl hf
        rw [hf]
        dsimp only [ptrOf] at hl
        clear hf H hk
        go_enter Tryz.func77, Tryz.ntmps77
        go_wp2
        go_ret
        exact ⟨rfl, rfl⟩
      | some n =>
        rw [hk] at hl hf
        rw [hf]
        dsimp only [ptrOf] at hl
        clear hf H hk
        go_enter Tryz.func77, Tryz.ntmps77
        go_wp2
        go_ret
        exact ⟨rfl, rfl⟩
    · rw [decide_eq_false h2, Bool.and_false, Bool.false_and] at hf
      rw [hf]
      clear hf H
      go_enter Tryz.func77, Tryz.ntmps77
      go_wp2
      go_ret
      exact ⟨rfl, rfl⟩
  · rw [decide_eq_false h1, Bool.false_and, Bool.false_and] at hf
    rw [hf]
    clear hf H
    go_enter Tryz.func77, Tryz.ntmps77
    go_wp2
    go_ret
    exact ⟨rfl, rfl⟩
/-- As DoL, with the rows as they are. -/
def DoK (w0 : World) (S : Blocks) (L : List Rw) (t : Nat) (T : Tr) (w : World) (R : Tr → Prop) (r : Value) (e : Ending) (w' : World) : Prop :=
  ∃ S' T', e = .returned r ∧ Own ⟨w0, S'⟩ w' L ∧ Tree S' (Pc L) t T' ∧ Frame S S' (t :: T.foot) (t :: T'.foot) w.heap.size ∧ R T'
theorem still_bool {w0 w w2 : World} {S S2 : Blocks} {L : List Rw} {t : Nat} {T : Tr} (r : Value) (h : Own ⟨w0, S2⟩ w2 L) (H : Tree S2 (Pc L) t T) (hsub : ∀ b x, (b, x) ∈ S → (b, x) ∈ S2) : DoK w0 S L t T w (fun T2 => T2 = T) r (.returned r) w2 :=
  ⟨S2, T, rfl, h, H, ⟨fun b x hb _ => hsub b x hb, fun b hb => .inl hb⟩, rfl⟩
abbrev argA (nd : Nd) (name : ByteArray) : Value := .agg #[.pointer (some ⟨nd.b, 0, none⟩), .string name]
set_option maxHeartbeats 2000000 in
/-- Something stands there already, or it is no name. -/
theorem kid_bad {w0 w : World} {S : Blocks} {L : List Rw} {t : Nat} {T : Tr} (hO : Own ⟨w0, S⟩ w L) (H : Tree S (Pc L) t T) {j : Int} {nd : Nd} {k : Nat} (ha : At T j nd k) (name : ByteArray) (hn : name.size ≤ maxLen) (i : Int) (hb : (look nd.kids name).isSome = true ∨ nameL name.data.toList = false) :
    Calls Tryz.prog 79 #[.pointer (some ⟨t, 0, none⟩), argA nd name, .int .i64 i] w (DoK w0 S L t T w (fun T2 => T2 = T) (.bool false)) := by
  obtain ⟨w1, S2, hw1, hsz, hO2, H1, m1, hsub, hlt, hB1⟩ := one_box hO H (boxP nd name)
  have hO3 := hO2.drew
  have p0 : w1.drew.cell? ⟨w.heap.size, 0, none⟩ = some (.pointer (some ⟨nd.b, 0, none⟩)) := by rw [hO3.cellB m1]; rfl
  have p1 : w1.drew.cell? ⟨w.heap.size, 1, none⟩ = some (.string name) := by rw [hO3.cellB m1]; rfl
  have hNW := (H1.at_.inWorld hO3).node _ (look_mem ha.there)
  obtain ⟨c0, _, _⟩ := hNW.at0
  rw [ha.dir] at c0
  have hl := hNW.look ha.dir name
  have hnm := name_any name w1.drew hn
  have hD : ∀ w', Below w1.heap.size w1.drew w' → DoK w0 S L t T w (fun T2 => T2 = T) (.bool false) (.returned (.bool false)) w' := fun w' hb => still_bool _ (hO3.later hb) H1 hsub
  have HD := Lib.hid hD
  clear hO H hO2 hO3 H1 m1 hsub hlt hsz hB1 hNW ha hD hn
  cases hx : look nd.kids name with
  | some x =>
    rw [hx] at hl
    dsimp only [Option.getD_some, Option.isSome_some] at hl
    clear hb hx hnm
    go_enter Tryz.func79, Tryz.ntmps79
    go_wp2_with fail
    rw [← hw1]
    clear hw1
    go_region
    go_wp2_with fail
    go_ret
    exact HD.out _ (Below.refl _ _)
  | none =>
    have hb2 : nameL name.data.toList = false := hb.resolve_left (by rw [hx]; decide)
    rw [hx] at hl
    dsimp only [Option.getD_none, Option.isSome_none] at hl
    rw [hb2] at hnm
    clear hb hx hb2
    go_enter Tryz.func79, Tryz.ntmps79
    go_wp2_with fail
    rw [← hw1]
    clear hw1
    go_region
    go_wp2_with fail
    refine hnm.mono ?_
    rintro e w2 ⟨rfl, hb⟩
    have HE := Lib.hid (HD.out w2 hb)
    clear hnm hb p0 p1 c0 hl
    go_wp2_with fail
    go_ret
    exact HE.out
set_option maxHeartbeats 2000000 in
/-- A name that is free: what becomes of it hangs on the node. -/
theorem kid_dir {w0 w : World} {S : Blocks} {L : List Rw} {t : Nat} {T : Tr} (hO : Own ⟨w0, S⟩ w L) (H : Tree S (Pc L) t T) {j : Int} {nd : Nd} {k : Nat} (ha : At T j nd k) (name : ByteArray) (hn : name.size ≤ maxLen) (i : Int) (hx : look nd.kids name = none) (hnm : nameL name.data.toList = true) {f : Nd} (hi : look T.nodes i = some f) (hf : f.k.isSome = true) :
    Calls Tryz.prog 79 #[.pointer (some ⟨t, 0, none⟩), argA nd name, .int .i64 i] w (DoK w0 S L t T w (fun T2 => T2 = T) (.bool false)) := by
  obtain ⟨w1, S2, hw1, hsz, hO2, H1, m1, hsub, hlt, hB1⟩ := one_box hO H (boxP nd name)
  have hO3 := hO2.drew
  have p0 : w1.drew.cell? ⟨w.heap.size, 0, none⟩ = some (.pointer (some ⟨nd.b, 0, none⟩)) := by rw [hO3.cellB m1]; rfl
  have p1 : w1.drew.cell? ⟨w.heap.size, 1, none⟩ = some (.string name) := by rw [hO3.cellB m1]; rfl
  have hNW := (H1.at_.inWorld hO3).node _ (look_mem ha.there)
  obtain ⟨c0, _, _⟩ := hNW.at0
  rw [ha.dir] at c0
  have hl := hNW.look ha.dir name
  rw [hx] at hl
  dsimp only [Option.getD_none, Option.isSome_none] at hl
  have hnm2 := name_any name w1.drew hn
  rw [hnm] at hnm2
  have hD : ∀ w', Below w1.heap.size w1.drew w' → w'.cell? ⟨t, 2, none⟩ = some (.map (some T.bm)) ∧ (Instr.lookup 73 (.map (some T.bm)) (.int .i64 i) false).run Tryz.prog w' = .ok (.pointer (some ⟨f.b, 0, none⟩)) w' ∧ Calls Tryz.prog 58 #[.pointer (some ⟨f.b, 0, none⟩)] w' (fun e w3 => e = .returned (.bool true) ∧ w' = w3) ∧ DoK w0 S L t T w (fun T2 => T2 = T) (.bool false) (.returned (.bool false)) w' := fun w' hb => by
    have h4 := hO3.later hb
    have hR := H1.at_.inWorld h4
    have hl2 := hR.look i
    rw [hi] at hl2
    have hdir := dir_any (hR.node _ (look_mem hi))
    rw [hf] at hdir
    exact ⟨hR.at0.2.2, hl2, hdir, still_bool _ h4 H1 hsub⟩
  have HD := Lib.hid hD
  clear hO H hO2 hO3 H1 m1 hsub hlt hsz hB1 hNW ha hD hn hx hnm hi hf
  go_enter Tryz.func79, Tryz.ntmps79
  go_wp2_with fail
  rw [← hw1]
  clear hw1
  go_region
  go_wp2_with fail
  refine hnm2.mono ?_
  rintro e w2 ⟨rfl, hb⟩
  obtain ⟨d2, dl, hdir, hE⟩ := HD.out w2 hb
  have HE := Lib.hid hE
  clear hnm2 hb p0 p1 c0 hl hE HD
  go_wp2_with (go_at_call 58; refine hdir.mono ?_; rintro e w' ⟨rfl, rfl⟩)
  go_ret
  exact HE.out
set_option maxHeartbeats 2000000 in
theorem kid_none {w0 w : World} {S : Blocks} {L : List Rw} {t : Nat} {T : Tr} (hO : Own ⟨w0, S⟩ w L) (H : Tree S (Pc L) t T) {j : Int} {nd : Nd} {k : Nat} (ha : At T j nd k) (name : ByteArray) (hn : name.size ≤ maxLen) (i : Int) (hx : look nd.kids name = none) (hnm : nameL name.data.toList = true) (hi : look T.nodes i = none) (hf : freeT T i = false) :
    Calls Tryz.prog 79 #[.pointer (some ⟨t, 0, none⟩), argA nd name, .int .i64 i] w (DoK w0 S L t T w (fun T2 => T2 = T) (.bool false)) := by
  obtain ⟨w1, S2, hw1, hsz, hO2, H1, m1, hsub, hlt, hB1⟩ := one_box hO H (boxP nd name)
  have hO3 := hO2.drew
  have p0 : w1.drew.cell? ⟨w.heap.size, 0, none⟩ = some (.pointer (some ⟨nd.b, 0, none⟩)) := by rw [hO3.cellB m1]; rfl
  have p1 : w1.drew.cell? ⟨w.heap.size, 1, none⟩ = some (.string name) := by rw [hO3.cellB m1]; rfl
  have hNW := (H1.at_.inWorld hO3).node _ (look_mem ha.there)
  obtain ⟨c0, _, _⟩ := hNW.at0
  rw [ha.dir] at c0
  have hl := hNW.look ha.dir name
  rw [hx] at hl
  dsimp only [Option.getD_none, Option.isSome_none] at hl
  have hnm2 := name_any name w1.drew hn
  rw [hnm] at hnm2
  have hD : ∀ w', Below w1.heap.size w1.drew w' → w'.cell? ⟨t, 2, none⟩ = some (.map (some T.bm)) ∧ (Instr.lookup 73 (.map (some T.bm)) (.int .i64 i) false).run Tryz.prog w' = .ok (.pointer none) w' ∧ Calls Tryz.prog 77 #[.pointer (some ⟨t, 0, none⟩), .int .i64 i] w' (fun e w3 => e = .returned (.bool false) ∧ w' = w3) ∧ DoK w0 S L t T w (fun T2 => T2 = T) (.bool false) (.returned (.bool false)) w' := fun w' hb => by
    have h4 := hO3.later hb
    have hR := H1.at_.inWorld h4
    have hl2 := hR.look i
    rw [hi] at hl2
    have hfr := free_any hR i
    rw [hf] at hfr
    exact ⟨hR.at0.2.2, hl2, hfr, still_bool _ h4 H1 hsub⟩
  have HD := Lib.hid hD
  clear hO H hO2 hO3 H1 m1 hsub hlt hsz hB1 hNW ha hD hn hx hnm hi hf
  go_enter Tryz.func79, Tryz.ntmps79
  go_wp2_with fail
  rw [← hw1]
  clear hw1
  go_region
  go_wp2_with fail
  refine hnm2.mono ?_
  rintro e w2 ⟨rfl, hb⟩
  obtain ⟨d2, dl, hfr, hE⟩ := HD.out w2 hb
  have HE := Lib.hid hE
  clear hnm2 hb p0 p1 c0 hl hE HD
  go_wp2_with (go_at_call 77; refine hfr.mono ?_; rintro e w' ⟨rfl, rfl⟩)
  go_ret
  exact HE.out
set_option maxHeartbeats 2000000 in
/-- A file comes to stand there. -/
theorem kid_file {w0 w : World} {S : Blocks} {L : List Rw} {t : Nat} {T : Tr} (hO : Own ⟨w0, S⟩ w L) (H : Tree S (Pc L) t T) {j : Int} {nd : Nd} {k : Nat} (ha : At T j nd k) (name : ByteArray) (hn : name.size ≤ maxLen) (i : Int) (hx : look nd.kids name = none) (hnm : nameL name.data.toList = true) {f : Nd} (g : Fl T i f) :
    Calls Tryz.prog 79 #[.pointer (some ⟨t, 0, none⟩), argA nd name, .int .i64 i] w (DoK w0 S L t T w (fun T2 => T2 = putTx T j name i) (.bool true)) := by
  obtain ⟨w1, S2, hw1, hsz, hO2, H1, m1, hsub, hlt, hB1⟩ := one_box hO H (boxP nd name)
  have hO3 := hO2.drew
  have p0 : w1.drew.cell? ⟨w.heap.size, 0, none⟩ = some (.pointer (some ⟨nd.b, 0, none⟩)) := by rw [hO3.cellB m1]; rfl
  have p1 : w1.drew.cell? ⟨w.heap.size, 1, none⟩ = some (.string name) := by rw [hO3.cellB m1]; rfl
  have hNW := (H1.at_.inWorld hO3).node _ (look_mem ha.there)
  obtain ⟨c0, _, _⟩ := hNW.at0
  rw [ha.dir] at c0
  have hl := hNW.look ha.dir name
  rw [hx] at hl
  dsimp only [Option.getD_none, Option.isSome_none] at hl
  have hnm2 := name_any name w1.drew hn
  rw [hnm] at hnm2
  have hsz1 : w.heap.size ≤ w1.heap.size := by omega
  have hD : ∀ w', Below w1.heap.size w1.drew w' → w'.cell? ⟨t, 2, none⟩ = some (.map (some T.bm)) ∧ (Instr.lookup 73 (.map (some T.bm)) (.int .i64 i) false).run Tryz.prog w' = .ok (.pointer (some ⟨f.b, 0, none⟩)) w' ∧ Calls Tryz.prog 58 #[.pointer (some ⟨f.b, 0, none⟩)] w' (fun e w3 => e = .returned (.bool false) ∧ w' = w3) ∧
      (w'.cell? ⟨w.heap.size, 0, none⟩ = some (.pointer (some ⟨nd.b, 0, none⟩)) ∧ w'.cell? ⟨w.heap.size, 1, none⟩ = some (.string name)) ∧
      Calls Tryz.prog 88 #[.pointer (some ⟨t, 0, none⟩), .agg #[.pointer (some ⟨nd.b, 0, none⟩), .string name], .int .i64 i] w' (fun e w3 => e = .returned (.tuple #[]) ∧ DoK w0 S L t T w (fun T2 => T2 = putTx T j name i) (.bool true) (.returned (.bool true)) w3) := fun w' hb => by
    have h4 := hO3.later hb
    have hR := H1.at_.inWorld h4
    have hl2 := hR.look i
    rw [g.there] at hl2
    have hdir := dir_any (hR.node _ (look_mem g.there))
    rw [show f.k.isSome = false by rw [g.file]; rfl] at hdir
    refine ⟨hR.at0.2.2, hl2, hdir, ⟨by rw [h4.cellB m1]; rfl, by rw [h4.cellB m1]; rfl⟩, (put_on h4 H1 ha name g).mono fun e w3 hd => ?_⟩
    obtain ⟨e1, S3, k1, k2, k3⟩ := hd
    have h5 : w1.heap.size ≤ w'.heap.size := hb.size
    exact ⟨e1, S3, _, rfl, k1, k2, Frame.more hsub k3 (by omega) hlt, rfl⟩
  have HD := Lib.hid hD
  clear hO H hO2 hO3 H1 m1 hsub hlt hsz hB1 hNW ha hD hn hx hnm g hsz1
  go_enter Tryz.func79, Tryz.ntmps79
  go_wp2_with fail
  rw [← hw1]
  clear hw1
  go_region
  go_wp2_with fail
  refine hnm2.mono ?_
  rintro e w2 ⟨rfl, hb⟩
  obtain ⟨d2, dl, hdir, ⟨z0, z1⟩, hput⟩ := HD.out w2 hb
  clear hnm2 hb p0 p1 c0 hl HD
  go_wp2_with (go_at_call 58; refine hdir.mono ?_; rintro e w' ⟨rfl, rfl⟩)
  refine hput.mono ?_
  rintro e w3 ⟨rfl, hE⟩
  have HE := Lib.hid hE
  clear hput hE
  go_wp2_with fail
  go_ret
  exact HE.out
end Go.Proofs.YtdjoahhcmkedhaaGreatDoor
end

/- loadKid, where a new directory comes to stand. -/
section
namespace Go.Proofs.YtdjoahhcmkedhaaGreatDoor
open Go.RowKit
open Go.ChangeMaps (setBlock)
set_option linter.unusedVariables false
set_option linter.unusedSimpArgs false
set_option maxRecDepth 100000

def kidT (T : Tr) (j : Int) (nd : Nd) (name : ByteArray) (i : Int) (n : Nd) : Tr := (T.setN i n).setN j { nd with kids := put nd.kids name i }
theorem new_dir {w0 w3 : World} {S3 : Blocks} {L : List Rw} {t : Nat} {T : Tr} (hO3 : Own ⟨w0, S3⟩ w3 L) (H3 : Tree S3 (Pc L) t T) {j : Int} {nd : Nd} {k : Nat} (ha : At T j nd k) (name : ByteArray) {i : Int} (hi : look T.nodes i = none) (h1 : 1 < i) (h2 : i < T.next) {m : Nat} (hm : (m, boxP nd name) ∈ S3) (hmf : m ∉ t :: T.foot) :
    ∃ w4 w5 w6 S7 n, Calls Tryz.prog 30 #[] w3.drew (fun e w' => e = .returned (.pointer (some ⟨w3.heap.size + 1, 0, none⟩)) ∧ w4 = w') ∧
      (w3.drew.cell? ⟨t, 2, none⟩ = some (.map (some T.bm)) ∧ w4.cell? ⟨t, 2, none⟩ = some (.map (some T.bm)) ∧ w5.cell? ⟨t, 2, none⟩ = some (.map (some T.bm))) ∧
      (Instr.mapUpdate 73 (.map (some T.bm)) (.int .i64 i) (.pointer (some ⟨w3.heap.size + 1, 0, none⟩))).run Tryz.prog w4 = .ok () w5 ∧
      (w5.drew.cell? ⟨m, 0, none⟩ = some (.pointer (some ⟨nd.b, 0, none⟩)) ∧ w5.drew.cell? ⟨m, 1, none⟩ = some (.string name)) ∧ w5.drew.cell? ⟨nd.b, 0, none⟩ = some (.map (some k)) ∧
      (Instr.mapUpdate 84 (.map (some k)) (.string name) (.int .i64 i)).run Tryz.prog w5.drew = .ok () w6 ∧
      Own ⟨w0, S7⟩ w6 L ∧ Tree S7 (Pc L) t (kidT T j nd name i n) ∧ n.er = ⟨true, [], [], 0⟩ ∧ Frame S3 S7 (t :: T.foot) (t :: (kidT T j nd name i n).foot) w3.heap.size := by
  have hlow : ∀ b ∈ t :: T.foot, b < w3.heap.size := fun b hb => by
    obtain ⟨x, hx⟩ := kept_in H3.at_ b hb
    exact (hO3.atLt hx).2
  have hlt : ∀ b x, (b, x) ∈ S3 → b < w3.heap.size := fun b x hb => (hO3.atLt hb).2
  -- the new directory
  have hO4 := ((hO3.drew.newB (.map #[] 0)).newB (.cells #[.map (some w3.heap.size), .slice none 0 0, .int .i64 0] 86))
  rw [show (w3.drew.alloc (.map #[] 0)).heap.size = w3.heap.size + 1 by simp] at hO4
  have hnd := newDir_any w3.drew
  change Calls Tryz.prog 30 #[] w3.drew (fun e w' => e = .returned (.pointer (some ⟨w3.heap.size + 1, 0, none⟩)) ∧ w' = (w3.drew.alloc (.map #[] 0)).alloc (.cells #[.map (some w3.heap.size), .slice none 0 0, .int .i64 0] 86)) at hnd
  change Own ⟨w0, (w3.heap.size + 1, _) :: (w3.heap.size, Obj.map #[] 0) :: S3⟩ ((w3.drew.alloc (.map #[] 0)).alloc (.cells #[.map (some w3.heap.size), .slice none 0 0, .int .i64 0] 86)) L at hO4
  obtain ⟨w4, hw4⟩ : ∃ w4, w4 = (w3.drew.alloc (.map #[] 0)).alloc (.cells #[.map (some w3.heap.size), .slice none 0 0, .int .i64 0] 86) := ⟨_, rfl⟩
  rw [← hw4] at hnd hO4
  -- it stands in the map of nodes
  obtain ⟨o1, x1, x2⟩ := H3.at_.map
  have x1' := List.mem_cons_of_mem (w3.heap.size + 1, Obj.cells #[.map (some w3.heap.size), .slice none 0 0, .int .i64 0] 86) (List.mem_cons_of_mem (w3.heap.size, Obj.map #[] 0) x1)
  obtain ⟨o2, hup1, x3⟩ := x2.update kindsI Tryz.underlying73 (hO4.at x1') i (.pointer (some ⟨w3.heap.size + 1, 0, none⟩))
  have hO5 := hO4.setB x1' o2
  have hbmlt : T.bm < w3.heap.size := hlow _ (List.mem_cons_of_mem _ (List.mem_cons_self ..))
  have hkeep5 : ∀ b x, (b, x) ∈ S3 → b ≠ T.bm → (b, x) ∈ upd ((w3.heap.size + 1, Obj.cells #[.map (some w3.heap.size), .slice none 0 0, .int .i64 0] 86) :: (w3.heap.size, Obj.map #[] 0) :: S3) T.bm o2 := fun b x hb hne => upd_other (List.mem_cons_of_mem _ (List.mem_cons_of_mem _ hb)) hne _
  have H5 := H3.addN (i := i) (n := newNd w3.heap.size) (N := w3.heap.size) hi (by omega) h2 x3 hkeep5 (upd_same x1' o2) ⟨upd_other (List.mem_cons_self ..) (by show w3.heap.size + 1 ≠ T.bm; omega) _, fun k2 hk2 => by
      have hk3 : w3.heap.size = k2 := by injection hk2
      subst hk3
      exact ⟨.map #[] 0, upd_other (List.mem_cons_of_mem _ (List.mem_cons_self ..)) (by omega) _, MapO.empty KS⟩, (fun h => by cases h), Pc.nil L, ⟨none, 0, rfl⟩⟩
    hlow (fun b hb => by
      have : b ∈ [w3.heap.size + 1, w3.heap.size] := hb
      simp at this; omega) (by show ([w3.heap.size + 1, w3.heap.size] : List Nat).Nodup; simp) rfl
  have m1' := hkeep5 _ _ hm (fun e => hmf (e ▸ List.mem_cons_of_mem _ (List.mem_cons_self ..)))
  have hkeepA : ∀ b x, (b, x) ∈ S3 → b ∉ t :: T.foot → (b, x) ∈ upd ((w3.heap.size + 1, Obj.cells #[.map (some w3.heap.size), .slice none 0 0, .int .i64 0] 86) :: (w3.heap.size, Obj.map #[] 0) :: S3) T.bm o2 := fun b x hb hnb => hkeep5 b x hb (fun e => hnb (e ▸ List.mem_cons_of_mem _ (List.mem_cons_self ..)))
  have c4 : w4.cell? ⟨t, 2, none⟩ = some (.map (some T.bm)) := by rw [hO4.cellB (List.mem_cons_of_mem _ (List.mem_cons_of_mem _ H3.at_.cells))]; rfl
  generalize upd ((w3.heap.size + 1, Obj.cells #[.map (some w3.heap.size), .slice none 0 0, .int .i64 0] 86) :: (w3.heap.size, Obj.map #[] 0) :: S3) T.bm o2 = S5 at *
  have hO6 := hO5.drew
  -- and at its name
  have hne : j ≠ i := fun e => by have := ha.there; rw [e, hi] at this; cases this
  have hj5 : look (T.setN i (newNd w3.heap.size)).nodes j = some nd := by unfold Tr.setN; rw [look_put, if_neg hne]; exact ha.there
  have hN5 := H5.at_.node _ (look_mem hj5)
  obtain ⟨o3, y1, y2⟩ := hN5.kid k ha.dir
  obtain ⟨o4, hup2, y3⟩ := y2.update (w := (setBlock w4 T.bm o2).drew) kindsS Tryz.underlying84 (hO6.at y1) name (.int .i64 i)
  rw [put_kidsV] at y3
  have hO7 := hO6.setB y1 o4
  have H7 := H5.setKids hj5 ha.dir y3 (fun q hq => by
    rcases mem_putk hq with rfl | hq
    · exact ⟨newNd w3.heap.size, by unfold Tr.setN; rw [look_put, if_pos rfl]⟩
    · exact H5.good.kids _ (look_mem hj5) q hq)
  have hfr : Frame S3 (upd S5 k o4) (t :: T.foot) (t :: (kidT T j nd name i (newNd w3.heap.size)).foot) w3.heap.size := by
    have hnk : i ∉ T.nodes.map (·.1) := look_none_key hi
    have e : (kidT T j nd name i (newNd w3.heap.size)).foot = T.foot ++ [w3.heap.size + 1, w3.heap.size] :=
      (setN_foot (n' := { nd with kids := put nd.kids name i }) hj5 rfl rfl).trans (foot_put hnk)
    refine ⟨fun b x hb hnb => upd_other (hkeepA b x hb hnb) (fun e => hnb (e ▸ List.mem_cons_of_mem _ ((foot_node ha.there).2 k ha.dir))) _, fun b hb => ?_⟩
    rw [e, ← List.cons_append] at hb
    rcases List.mem_append.1 hb with hb | hb
    · exact .inl hb
    · simp at hb; right; omega
  have n0 := (H5.at_.inWorld hO6).node _ (look_mem hj5) |>.at0.1
  rw [ha.dir] at n0
  exact ⟨w4, setBlock w4 T.bm o2, _, _, newNd w3.heap.size, hnd.mono fun e w' h => ⟨h.1, h.2.symm⟩, ⟨(H3.at_.inWorld hO3.drew).at0.2.2, c4, (H5.at_.inWorld hO5).at0.2.2⟩, hup1, ⟨by rw [hO6.cellB m1']; rfl, by rw [hO6.cellB m1']; rfl⟩, n0, hup2, hO7, H7, rfl, hfr⟩
set_option maxHeartbeats 4000000 in
theorem kid_new {w0 w : World} {S : Blocks} {L : List Rw} {t : Nat} {T : Tr} (hO : Own ⟨w0, S⟩ w L) (H : Tree S (Pc L) t T) {j : Int} {nd : Nd} {k : Nat} (ha : At T j nd k) (name : ByteArray) (hn : name.size ≤ maxLen) (i : Int) (hx : look nd.kids name = none) (hnm : nameL name.data.toList = true) (hi : look T.nodes i = none) (h1 : 1 < i) (h2 : i < T.next) :
    Calls Tryz.prog 79 #[.pointer (some ⟨t, 0, none⟩), argA nd name, .int .i64 i] w (DoK w0 S L t T w (fun T2 => ∃ n : Nd, n.er = ⟨true, [], [], 0⟩ ∧ T2 = kidT T j nd name i n) (.bool true)) := by
  obtain ⟨w1, S2, hw1, hsz, hO2, H1, m1, hsub, hlt, hB1⟩ := one_box hO H (boxP nd name)
  have hO3 := hO2.drew
  have p0 : w1.drew.cell? ⟨w.heap.size, 0, none⟩ = some (.pointer (some ⟨nd.b, 0, none⟩)) := by rw [hO3.cellB m1]; rfl
  have p1 : w1.drew.cell? ⟨w.heap.size, 1, none⟩ = some (.string name) := by rw [hO3.cellB m1]; rfl
  have hNW := (H1.at_.inWorld hO3).node _ (look_mem ha.there)
  obtain ⟨c0, _, _⟩ := hNW.at0
  rw [ha.dir] at c0
  have hl := hNW.look ha.dir name
  rw [hx] at hl
  dsimp only [Option.getD_none, Option.isSome_none] at hl
  have hnm2 := name_any name w1.drew hn
  rw [hnm] at hnm2
  have hmf : w.heap.size ∉ t :: T.foot := fun hb => by
    obtain ⟨x, hx⟩ := kept_in H.at_ _ hb
    exact absurd (hlt _ _ hx) (Nat.lt_irrefl _)
  have hft : freeT T i = true := by unfold freeT; rw [decide_eq_true h1, decide_eq_true h2, hi]; rfl
  have hsz1 : w.heap.size ≤ w1.heap.size := by omega
  have hD : ∀ w', Below w1.heap.size w1.drew w' → (w'.cell? ⟨t, 2, none⟩ = some (.map (some T.bm)) ∧ (Instr.lookup 73 (.map (some T.bm)) (.int .i64 i) false).run Tryz.prog w' = .ok (.pointer none) w' ∧ Calls Tryz.prog 77 #[.pointer (some ⟨t, 0, none⟩), .int .i64 i] w' (fun e w3 => e = .returned (.bool true) ∧ w' = w3)) ∧ ∃ w4 w5 w6, Calls Tryz.prog 30 #[] w'.drew (fun e w2 => e = .returned (.pointer (some ⟨w'.heap.size + 1, 0, none⟩)) ∧ w4 = w2) ∧
      (w'.drew.cell? ⟨t, 2, none⟩ = some (.map (some T.bm)) ∧ w4.cell? ⟨t, 2, none⟩ = some (.map (some T.bm)) ∧ w5.cell? ⟨t, 2, none⟩ = some (.map (some T.bm))) ∧
      (Instr.mapUpdate 73 (.map (some T.bm)) (.int .i64 i) (.pointer (some ⟨w'.heap.size + 1, 0, none⟩))).run Tryz.prog w4 = .ok () w5 ∧
      (w5.drew.cell? ⟨w.heap.size, 0, none⟩ = some (.pointer (some ⟨nd.b, 0, none⟩)) ∧ w5.drew.cell? ⟨w.heap.size, 1, none⟩ = some (.string name)) ∧ w5.drew.cell? ⟨nd.b, 0, none⟩ = some (.map (some k)) ∧
      (Instr.mapUpdate 84 (.map (some k)) (.string name) (.int .i64 i)).run Tryz.prog w5.drew = .ok () w6 ∧ DoK w0 S L t T w (fun T2 => ∃ n : Nd, n.er = ⟨true, [], [], 0⟩ ∧ T2 = kidT T j nd name i n) (.bool true) (.returned (.bool true)) w6 := fun w' hb => by
    have h4 := hO3.later hb
    have hR := H1.at_.inWorld h4
    have hl2 := hR.look i
    rw [hi] at hl2
    have hfr := free_any hR i
    rw [hft] at hfr
    obtain ⟨w4, w5, w6, S7, n, k1, k2, k3, k4, k5, k6, k7, k8, k9, k10⟩ := new_dir h4 H1 ha name hi h1 h2 m1 hmf
    have h5 : w1.heap.size ≤ w'.heap.size := hb.size
    exact ⟨⟨hR.at0.2.2, hl2, hfr⟩, w4, w5, w6, k1, k2, k3, k4, k5, k6, S7, _, rfl, k7, k8, Frame.more hsub k10 (by omega) hlt, n, k9, rfl⟩
  have HD := Lib.hid hD
  clear hO H hO2 hO3 H1 m1 hsub hlt hsz hB1 hNW ha hD hn hx hnm hi h1 h2 hmf hft hsz1
  go_enter Tryz.func79, Tryz.ntmps79
  go_wp2_with fail
  rw [← hw1]
  clear hw1
  go_region
  go_wp2_with fail
  refine hnm2.mono ?_
  rintro e w2 ⟨rfl, hb⟩
  obtain ⟨⟨d2, dl, hfr⟩, w4, w5, w6, hnd, ⟨t2, t4, t5⟩, hup1, ⟨z0, z1⟩, n0, hup2, hE⟩ := HD.out w2 hb
  have HE := Lib.hid hE
  clear hnm2 hb p0 p1 c0 hl HD hE
  go_wp2_with (go_at_call 77; refine hfr.mono ?_; rintro e w' ⟨rfl, rfl⟩)
  clear hfr dl
  go_region_held3 (fun w' : World => w'.cell? ⟨t, 2, none⟩ = some (.map (some T.bm))) (first | exact d2 | exact t2 | exact t4 | exact t5) (first | (go_at_call 30; refine hnd.mono ?_; rintro e w' ⟨rfl, rfl⟩))
  all_goals go_wp2_with fail
  all_goals go_still_tail 8, (by kernel_rfl)
  all_goals go_wp2_with fail
  all_goals go_ret
  all_goals exact HE.out
end Go.Proofs.YtdjoahhcmkedhaaGreatDoor
end

/- A reader's calls in one form each, as functions of what is left to read. -/
section
namespace Go.Proofs.YtdjoahhcmkedhaaGreatDoor
open Go.RowKit
set_option linter.unusedVariables false
set_option linter.unusedSimpArgs false

instance (zs : List Int) (most : Int) : Decidable (isSized zs most) := by unfold isSized; infer_instance
/-- A number, bytes: what is taken, what is left, whether it is spoilt. -/
def numP (most : Int) (zs : List Int) (bad : Bool) : Int × List Int × Bool := if 4 ≤ zs.length ∧ num4 zs ≤ most then (num4 zs, zs.drop 4, bad) else (0, [], true)
def bodP (most : Int) (zs : List Int) (bad : Bool) : List Int × List Int × Bool := if isSized zs most then (bodyOf zs, restOf zs, bad) else ([], [], true)
/-- A reader at r, of which this is left. -/
def Rd (W0 : Base) (w : World) (L : List Rw) (r : Nat) (zs : List Int) (bad : Bool) : Prop := ∃ v, Own W0 w (rowR r v bad :: L) ∧ Pc L v zs
/-- Rows of other things serve no bytes. -/
theorem Pc.keep {L L' : List Rw} {v : Value} {zs : List Int} (h : Pc L v zs) (hs : ∀ r ∈ L, r.e = 5 → r ∈ L') : Pc L' v zs := by
  obtain ⟨a, c, hv, h1, h2, hz, h3⟩ := h
  refine ⟨a, c, hv, h1, h2, hz, ?_⟩
  rcases h3 with h3 | ⟨g, o, ha, h3⟩
  · exact .inl h3
  · exact .inr ⟨g, o, ha, fun hne => by obtain ⟨cap, ys, hm, h4⟩ := h3 hne; exact ⟨cap, ys, hs _ hm rfl, h4⟩⟩
theorem Rd.byts {W0 : Base} {w : World} {L : List Rw} {r : Nat} {zs : List Int} {bad : Bool} (h : Rd W0 w L r zs bad) : Byts zs := by
  obtain ⟨v, _, h2⟩ := h
  exact h2.byts
theorem Rd.later {W0 : Base} {w w' : World} {L : List Rw} {r : Nat} {zs : List Int} {bad : Bool} (h : Rd W0 w L r zs bad) (hb : Below w.heap.size w w') : Rd W0 w' L r zs bad := by
  obtain ⟨v, h1, h2⟩ := h
  exact ⟨v, h1.later hb, h2⟩
theorem Rd.own {W0 : Base} {w : World} {L : List Rw} {r : Nat} {zs : List Int} {bad : Bool} (h : Rd W0 w L r zs bad) : Own W0 w L := by
  obtain ⟨v, h1, _⟩ := h
  exact h1.tail
theorem Rd.more {W0 : Base} {w : World} {L : List Rw} {r : Nat} {zs : List Int} {bad : Bool} (h : Rd W0 w L r zs bad) : Calls Tryz.prog 43 #[.pointer (some ⟨r, 0, none⟩)] w fun e w' => e = .returned (.bool (decide (0 < zs.length))) ∧ w = w' := by
  obtain ⟨v, h1, h2⟩ := h
  exact more_any W0 w r v bad L zs h1 h2
theorem Rd.good {W0 : Base} {w : World} {L : List Rw} {r : Nat} {zs : List Int} {bad : Bool} (h : Rd W0 w L r zs bad) : Calls Tryz.prog 78 #[.pointer (some ⟨r, 0, none⟩)] w fun e w' => e = .returned (.bool (!bad)) ∧ w = w' := by
  obtain ⟨v, h1, h2⟩ := h
  exact good_any W0 w r v bad L h1
theorem Rd.err {W0 : Base} {w : World} {L : List Rw} {r : Nat} {zs : List Int} {bad : Bool} (h : Rd W0 w L r zs bad) : Calls Tryz.prog 47 #[.pointer (some ⟨r, 0, none⟩)] w fun e w' => e = .returned (.int .i64 (if (!bad && decide (zs.length = 0)) = true then 0 else 4)) ∧ w = w' := by
  obtain ⟨v, h1, h2⟩ := h
  exact err_any W0 w r v bad L zs h1 h2
theorem Rd.num {W0 : Base} {w : World} {L : List Rw} {r : Nat} {zs : List Int} {bad : Bool} (h : Rd W0 w L r zs bad) (most : Int) :
    Calls Tryz.prog 44 #[.pointer (some ⟨r, 0, none⟩), .int .i64 most] w fun e w' => e = .returned (.int .i64 (numP most zs bad).1) ∧ Rd W0 w' L r (numP most zs bad).2.1 (numP most zs bad).2.2 := by
  obtain ⟨v, h1, h2⟩ := h
  unfold numP
  by_cases hs : 4 ≤ zs.length ∧ num4 zs ≤ most
  · rw [if_pos hs]
    exact (rnum_any W0 w r v bad L zs most h1 h2 hs).mono fun e w' ⟨v', a, b, c⟩ => ⟨a, v', b, c⟩
  · rw [if_neg hs]
    exact (rnum_no W0 w r v bad L zs most h1 h2 hs).mono fun e w' ⟨a, b⟩ => ⟨a, _, b, Pc.nil L⟩
set_option maxHeartbeats 1600000 in
theorem rtext_no (W0 : Base) (w : World) (r : Nat) (v : Value) (bad : Bool) (L : List Rw) (zs : List Int) (most : Int) (h : Own W0 w (rowR r v bad :: L)) (hp : Pc L v zs) (hs : ¬ isSized zs most) :
    Calls Tryz.prog 45 #[.pointer (some ⟨r, 0, none⟩), .int .i64 most] w fun e w' => e = .returned (.string (strOfNums [])) ∧ Own W0 w' (rowR r (.slice none 0 0) true :: L) := by
  have Hc := Lib.hid (sized_no W0 w r v bad L zs most h hp hs)
  clear h hp hs
  go_enter Tryz.func45, Tryz.ntmps45
  go_wp2_with fail
  refine Hc.out.mono ?_
  rintro e w1 ⟨rfl, hO⟩
  have HO := Lib.hid hO
  have hcv := (By.nil w1).toStr
  clear hO
  go_wp2_with fail
  go_ret
  exact ⟨rfl, HO.out⟩
theorem Rd.text {W0 : Base} {w : World} {L : List Rw} {r : Nat} {zs : List Int} {bad : Bool} (h : Rd W0 w L r zs bad) (most : Int) :
    Calls Tryz.prog 45 #[.pointer (some ⟨r, 0, none⟩), .int .i64 most] w fun e w' => e = .returned (.string (strOfNums (bodP most zs bad).1)) ∧ Rd W0 w' L r (bodP most zs bad).2.1 (bodP most zs bad).2.2 := by
  obtain ⟨v, h1, h2⟩ := h
  unfold bodP
  by_cases hs : isSized zs most
  · rw [if_pos hs]
    exact (rtext_yes W0 w r v bad L zs most h1 h2 hs).mono fun e w' ⟨v', a, b, c⟩ => ⟨a, v', b, c⟩
  · rw [if_neg hs]
    exact (rtext_no W0 w r v bad L zs most h1 h2 hs).mono fun e w' ⟨a, b⟩ => ⟨a, _, b, Pc.nil L⟩
theorem bodP_byts {most : Int} {zs : List Int} {bad : Bool} (h : Byts zs) : Byts (bodP most zs bad).1 ∧ Byts (bodP most zs bad).2.1 := by
  unfold bodP
  by_cases hs : isSized zs most
  · rw [if_pos hs]; exact ⟨(h.drop 4).take _, (h.drop 4).drop _⟩
  · rw [if_neg hs]; exact ⟨Byts.nil, Byts.nil⟩
theorem Rd.raw {W0 : Base} {w : World} {L : List Rw} {r : Nat} {zs : List Int} {bad : Bool} (h : Rd W0 w L r zs bad) (most : Int) :
    Calls Tryz.prog 46 #[.pointer (some ⟨r, 0, none⟩), .int .i64 most] w fun e w' => ∃ v1 L1, e = .returned v1 ∧ Rd W0 w' (L1 ++ L) r (bodP most zs bad).2.1 (bodP most zs bad).2.2 ∧ Pc L1 v1 (bodP most zs bad).1 := by
  have hz := h.byts
  obtain ⟨v, h1, h2⟩ := h
  have hbz := (bodP_byts (most := most) (bad := bad) hz).1
  unfold bodP at hbz ⊢
  by_cases hs : isSized zs most
  · rw [if_pos hs] at hbz ⊢
    refine (rraw_yes W0 w r v bad L zs most h1 h2 hs).mono fun e w' ⟨v1, v2, a, b, c⟩ => ⟨v1, [rowU v1 (bodyOf zs)], a, ⟨v2, b.swap, c.cons _⟩, ?_⟩
    exact Pc.all (b.only (List.mem_cons_self ..)) hbz
  · rw [if_neg hs] at hbz ⊢
    exact (rraw_no W0 w r v bad L zs most h1 h2 hs).mono fun e w' ⟨a, b⟩ => ⟨_, [], a, ⟨_, b, Pc.nil L⟩, Pc.nil []⟩
set_option maxHeartbeats 1600000 in
theorem rlist_no (W0 : Base) (w : World) (r : Nat) (v : Value) (bad : Bool) (L : List Rw) (zs : List Int) (h : Own W0 w (rowR r v bad :: L)) (hp : Pc L v zs) (hs : ¬ isSized zs 16777216) :
    Calls Tryz.prog 54 #[.pointer (some ⟨r, 0, none⟩)] w fun e w' => ∃ r2, e = .returned (.pointer (some ⟨r2, 0, none⟩)) ∧ Own W0 w' (rowR r2 (.slice none 0 0) true :: rowR r (.slice none 0 0) true :: L) := by
  have Hc := Lib.hid (sized_no W0 w r v bad L zs 16777216 h hp hs)
  have hzr := zero_reader
  clear h hp hs
  go_enter Tryz.func54, Tryz.ntmps54
  go_wp2_with fail
  refine Hc.out.mono ?_
  rintro e w1 ⟨rfl, hO⟩
  have HO := Lib.hid hO
  clear hO
  go_wp2_with fail
  go_ret
  exact ⟨_, rfl, HO.out.made 125 2 #[.slice none 0 0, .bool true] 1 rfl (by unfold maxLen; decide)⟩
/-- Two readers, the second of a part of the first. -/
def Rd2 (W0 : Base) (w : World) (L : List Rw) (r2 : Nat) (zs2 : List Int) (bad2 : Bool) (r : Nat) (zs : List Int) (bad : Bool) : Prop := ∃ v2 v, Own W0 w (rowR r2 v2 bad2 :: rowR r v bad :: L) ∧ Pc L v2 zs2 ∧ Pc L v zs
theorem Rd.list {W0 : Base} {w : World} {L : List Rw} {r : Nat} {zs : List Int} {bad : Bool} (h : Rd W0 w L r zs bad) :
    Calls Tryz.prog 54 #[.pointer (some ⟨r, 0, none⟩)] w fun e w' => ∃ r2, e = .returned (.pointer (some ⟨r2, 0, none⟩)) ∧ Rd2 W0 w' L r2 (bodP 16777216 zs false).1 (bodP 16777216 zs false).2.2 r (bodP 16777216 zs bad).2.1 (bodP 16777216 zs bad).2.2 := by
  obtain ⟨v, h1, h2⟩ := h
  unfold bodP
  by_cases hs : isSized zs 16777216
  · rw [if_pos hs, if_pos hs]
    exact (rlist_yes W0 w r v bad L zs h1 h2 hs).mono fun e w' ⟨r2, v1, v2, a, b, c, d⟩ => ⟨r2, a, v1, v2, b, c, d⟩
  · rw [if_neg hs, if_neg hs]
    exact (rlist_no W0 w r v bad L zs h1 h2 hs).mono fun e w' ⟨r2, a, b⟩ => ⟨r2, a, _, _, b, Pc.nil L, Pc.nil L⟩
/-- The inner one is a reader; behind its calls both are again. -/
theorem Rd2.inner {W0 : Base} {w : World} {L : List Rw} {r2 r : Nat} {zs2 zs : List Int} {bad2 bad : Bool} (h : Rd2 W0 w L r2 zs2 bad2 r zs bad) : ∃ v, Pc L v zs ∧ Rd W0 w (rowR r v bad :: L) r2 zs2 bad2 := by
  obtain ⟨v2, v, h1, h2, h3⟩ := h
  exact ⟨v, h3, v2, h1, h2.cons _⟩
theorem Rd2.outer {W0 : Base} {w : World} {L : List Rw} {r2 r : Nat} {zs2 zs : List Int} {bad2 bad : Bool} (h : Rd2 W0 w L r2 zs2 bad2 r zs bad) : Rd W0 w L r zs bad := by
  obtain ⟨v2, v, h1, h2, h3⟩ := h
  exact ⟨v, h1.tail, h3⟩
theorem rread_rd (v : Value) (zs : List Int) (w : World) (h : By w v zs) (hl : zs.length ≤ 140737488355328) (W0 : Base) (L : List Rw) (hO : Own W0 w L) :
    Calls Tryz.prog 42 #[v] w fun e w' => ∃ r L1, e = .returned (.pointer (some ⟨r, 0, none⟩)) ∧ Rd W0 w' (L1 ++ L) r zs false := by
  refine (rread_any v zs w h hl).mono fun e w' hd => ?_
  obtain ⟨r, v', a, b, c⟩ := hd
  exact ⟨r, [rowU v' zs], a, v', hO.join b, c.mono fun x hx => List.mem_append_left _ hx⟩
end Go.Proofs.YtdjoahhcmkedhaaGreatDoor
end

/- loadKid, in one form; loadFiles. -/
section
namespace Go.Proofs.YtdjoahhcmkedhaaGreatDoor
open Go.RowKit
open Go.ChangeMaps (setBlock)
set_option linter.unusedVariables false
set_option linter.unusedSimpArgs false
set_option maxRecDepth 100000

/-- At how many paths files stand. -/
def PlT (T : Tr) (K : Int) : Prop := ∀ i n, look T.nodes i = some n → n.k = none → 0 ≤ n.places ∧ n.places ≤ K
theorem PlT.mono {T : Tr} {K K' : Int} (h : PlT T K) (hk : K ≤ K') : PlT T K' := fun i n hi hn => ⟨(h i n hi hn).1, by have := (h i n hi hn).2; omega⟩
def KidAt (w0 : World) (L : List Rw) (t : Nat) (next : Int) (j : Int) (b k : Nat) (K : Int) (e : Ending) (w' : World) : Prop :=
  ∃ r S' T' nd', e = .returned (.bool r) ∧ Own ⟨w0, S'⟩ w' L ∧ Tree S' (Pc L) t T' ∧ PlT T' K ∧ At T' j nd' k ∧ nd'.b = b ∧ T'.next = next
theorem kid_all {w0 w : World} {S : Blocks} {L : List Rw} {t : Nat} {T : Tr} (hO : Own ⟨w0, S⟩ w L) (H : Tree S (Pc L) t T) {K : Int} (hp : PlT T K) (hK0 : 0 ≤ K) (hK : K ≤ 900000000) {j : Int} {nd : Nd} {k : Nat} (ha : At T j nd k) (name : ByteArray) (hn : name.size ≤ maxLen) (i : Int) :
    Calls Tryz.prog 79 #[.pointer (some ⟨t, 0, none⟩), argA nd name, .int .i64 i] w (KidAt w0 L t T.next j nd.b k (K + 1)) := by
  have same : ∀ (r : Bool) e w', DoK w0 S L t T w (fun T2 => T2 = T) (.bool r) e w' → KidAt w0 L t T.next j nd.b k (K + 1) e w' := fun r e w' ⟨S', T', h1, h2, h3, _, h5⟩ => by
    subst h5
    exact ⟨r, S', T', nd, h1, h2, h3, hp.mono (by omega), ha, rfl, rfl⟩
  cases hx : look nd.kids name with
  | some x => exact (kid_bad hO H ha name hn i (.inl (by rw [hx]; rfl))).mono (same false)
  | none =>
    cases hnm : nameL name.data.toList with
    | false => exact (kid_bad hO H ha name hn i (.inr hnm)).mono (same false)
    | true =>
      cases hi : look T.nodes i with
      | some f =>
        cases hf : f.k with
        | some kf => exact (kid_dir hO H ha name hn i hx hnm hi (by rw [hf]; rfl)).mono (same false)
        | none =>
          have hpf := hp i f hi hf
          have g : Fl T i f := ⟨hi, hf, hpf.1, by omega⟩
          have hne := ha.ne g
          refine (kid_file hO H ha name hn i hx hnm g).mono fun e w' ⟨S', T', h1, h2, h3, _, h5⟩ => ?_
          rw [putTx_of name ha.there hi] at h5
          subst h5
          have hlk : ∀ a, look (putT T j nd name i f).nodes a = if a = i then some { f with places := f.places + 1 } else if a = j then some { nd with kids := put nd.kids name i } else look T.nodes a := fun a => by
            unfold putT Tr.setN
            rw [look_put, look_put]
          refine ⟨true, S', _, { nd with kids := put nd.kids name i }, h1, h2, h3, fun a n han hnk => ?_, ⟨by rw [hlk, if_neg hne, if_pos rfl], ha.dir⟩, rfl, rfl⟩
          rw [hlk] at han
          by_cases e1 : a = i
          · rw [if_pos e1] at han
            injection han with han
            rw [← han]
            show 0 ≤ f.places + 1 ∧ f.places + 1 ≤ K + 1
            omega
          · rw [if_neg e1] at han
            by_cases e2 : a = j
            · rw [if_pos e2] at han
              injection han with han
              rw [← han] at hnk
              have := ha.dir
              rw [show nd.k = none from hnk] at this; cases this
            · rw [if_neg e2] at han
              have := hp a n han hnk; omega
      | none =>
        cases hf : freeT T i with
        | false => exact (kid_none hO H ha name hn i hx hnm hi hf).mono (same false)
        | true =>
          have hf2 := hf
          unfold freeT at hf2
          rw [hi] at hf2
          have hf3 : decide (1 < i) = true ∧ decide (i < T.next) = true := by simpa using hf2
          have hne : j ≠ i := fun e => by have := ha.there; rw [e, hi] at this; cases this
          refine (kid_new hO H ha name hn i hx hnm hi (of_decide_eq_true hf3.1) (of_decide_eq_true hf3.2)).mono fun e w' ⟨S', T', h1, h2, h3, _, n, h5, h6⟩ => ?_
          subst h6
          have hlk : ∀ a, look (kidT T j nd name i n).nodes a = if a = j then some { nd with kids := put nd.kids name i } else if a = i then some n else look T.nodes a := fun a => by
            unfold kidT Tr.setN
            rw [look_put, look_put]
          refine ⟨true, S', _, { nd with kids := put nd.kids name i }, h1, h2, h3, fun a m han hnk => ?_, ⟨by rw [hlk, if_pos rfl], ha.dir⟩, rfl, rfl⟩
          rw [hlk] at han
          by_cases e1 : a = j
          · rw [if_pos e1] at han
            injection han with han
            rw [← han] at hnk
            have := ha.dir
            rw [show nd.k = none from hnk] at this; cases this
          · rw [if_neg e1] at han
            by_cases e2 : a = i
            · rw [if_pos e2] at han
              injection han with han
              subst han
              have : n.k.isSome = true := congrArg ENd.dir h5
              rw [hnk] at this; cases this
            · rw [if_neg e2] at han
              have := hp a m han hnk; omega
/-- Rows of readers serve no tree. -/
theorem Tree.rows {S : Blocks} {L L' : List Rw} {t : Nat} {T : Tr} (H : Tree S (Pc L) t T) (hs : ∀ r ∈ L, r.e = 5 → r ∈ L') : Tree S (Pc L') t T := H.mono (fun b x _ hx => hx) (fun v zs h => h.keep hs)
theorem rowR_not {r : Nat} {v : Value} {bad : Bool} (h : (rowR r v bad).e = 5) : False := absurd (show (125 : TypeId) = 5 from h) (by decide)
/-- A new file that stands nowhere. -/
theorem add_loaded {w0 w : World} {S : Blocks} {L : List Rw} {t : Nat} {T : Tr} (hO : Own ⟨w0, S⟩ w L) (H : Tree S (Pc L) t T) {i : Int} (hi : look T.nodes i = none) (h1 : 1 < i) (h2 : i < T.next) {a : Option Addr} {c : Nat} {zs : List Int} (hp : Pc L (.slice a zs.length c) zs) {K : Int} (hpl : PlT T K) (hK0 : 0 ≤ K) :
    ∃ o S' T', (Instr.mapUpdate 73 (.map (some T.bm)) (.int .i64 i) (.pointer (some ⟨w.heap.size, 0, none⟩))).run Tryz.prog (w.alloc (.cells #[.map none, .slice a zs.length c, .int .i64 0] 86)) = .ok () (setBlock (w.alloc (.cells #[.map none, .slice a zs.length c, .int .i64 0] 86)) T.bm o) ∧
      Own ⟨w0, S'⟩ (setBlock (w.alloc (.cells #[.map none, .slice a zs.length c, .int .i64 0] 86)) T.bm o) L ∧ Tree S' (Pc L) t T' ∧ PlT T' K ∧ T'.next = T.next := by
  have hlow : ∀ b ∈ t :: T.foot, b < w.heap.size := fun b hb => by
    obtain ⟨x, hx⟩ := kept_in H.at_ b hb
    exact (hO.atLt hx).2
  have hO4 := hO.newB (.cells #[.map none, .slice a zs.length c, .int .i64 0] 86)
  obtain ⟨o1, x1, x2⟩ := H.at_.map
  have x1' := List.mem_cons_of_mem (w.heap.size, Obj.cells #[.map none, .slice a zs.length c, .int .i64 0] 86) x1
  obtain ⟨o2, hup1, x3⟩ := x2.update kindsI Tryz.underlying73 (hO4.at x1') i (.pointer (some ⟨w.heap.size, 0, none⟩))
  have hO5 := hO4.setB x1' o2
  have hbmlt : T.bm < w.heap.size := hlow _ (List.mem_cons_of_mem _ (List.mem_cons_self ..))
  have hkeep5 : ∀ b x, (b, x) ∈ S → b ≠ T.bm → (b, x) ∈ upd ((w.heap.size, Obj.cells #[.map none, .slice a zs.length c, .int .i64 0] 86) :: S) T.bm o2 := fun b x hb hne => upd_other (List.mem_cons_of_mem _ hb) hne _
  have H5 := H.addN (i := i) (n := ⟨w.heap.size, none, [], .slice a zs.length c, zs, 0⟩) (N := w.heap.size) hi (by omega) h2 x3 hkeep5 (upd_same x1' o2) ⟨upd_other (List.mem_cons_self ..) (by show w.heap.size ≠ T.bm; omega) _, (fun k2 hk2 => by cases hk2), (fun _ => rfl), hp, ⟨a, c, rfl⟩⟩
    hlow (fun b hb => by
      have : b ∈ [w.heap.size] := hb
      simp at this; omega) (by show ([w.heap.size] : List Nat).Nodup; simp) rfl
  refine ⟨o2, _, _, hup1, hO5, H5, fun x n hx hn => ?_, rfl⟩
  have hx2 : (if x = i then some (⟨w.heap.size, none, [], .slice a zs.length c, zs, 0⟩ : Nd) else look T.nodes x) = some n := by
    rw [← hx]; unfold Tr.setN; rw [look_put]
  by_cases e : x = i
  · rw [if_pos e] at hx2
    injection hx2 with hx2
    rw [← hx2]
    exact ⟨Int.le_refl _, hK0⟩
  · rw [if_neg e] at hx2
    exact hpl x n hx2 hn
end Go.Proofs.YtdjoahhcmkedhaaGreatDoor
end
