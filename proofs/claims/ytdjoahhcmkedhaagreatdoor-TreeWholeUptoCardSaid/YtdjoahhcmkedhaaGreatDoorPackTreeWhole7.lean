/- Texts one behind the other, each in a section of its own: what calls make of memory, step by step. -/
import Derived.Test.YtdjoahhcmkedhaaGreatDoorPackTreeWhole6
import Derived.Test.YtdjoahhcmkedhaaGreatDoorRows
import Derived.Deep.Slices
import Derived.Lib.SmallJoins
import Derived.WideShapes
import Derived.ProofKit
import Derived.Sort.OwnSortedInts
import Derived.Lib.OwnBridge

/- do, of whatever operation, against the plain state. -/
section
namespace Go.Proofs.YtdjoahhcmkedhaaGreatDoor
open Go.RowKit
open Go.ChangeMaps (setBlock)
set_option linter.unusedVariables false
set_option linter.unusedSimpArgs false
set_option maxRecDepth 100000

/-- What an operation tells (0: it was done), and what it makes of a tree. -/
def stepE (E : Et) (o : OpE) : Int × Et :=
  if o.kind < 0 ∨ 6 < o.kind then (1, E) else
  match placeE E o.l with
  | (c, none) => (c, E)
  | (_, some (j, nd, z)) =>
    if 3500 < o.zs.length then (6, E) else
    match look nd.kids (toB z) with
    | none => if o.kind = 0 then (0, mkdirE E j nd (toB z)) else if o.kind = 2 then (0, createE E j nd (toB z) o.zs) else (8, E)
    | some i =>
      if o.kind = 0 ∨ o.kind = 2 then (9, E) else
      match look E.nodes i with
      | none => (0, E)
      | some f =>
        if o.kind = 1 then (if f.dir = true then (if f.kids.isEmpty = true then (0, rmdirE E j nd (toB z) i) else (12, E)) else (11, E))
        else if f.dir = true then (10, E)
        else if o.kind = 3 then (0, { E with nodes := put E.nodes i { f with data := o.zs } })
        else if o.kind = 6 then (0, takeEx E j (toB z))
        else match placeE E o.l2 with
          | (c, none) => (c, E)
          | (_, some (jb, ndb, zb)) => match look ndb.kids (toB zb) with
            | none => if o.kind = 4 then (0, putEx E jb (toB zb) i) else (0, putEx (takeEx E j (toB z)) jb (toB zb) i)
            | some old => if o.kind = 4 then (9, E) else match look E.nodes old with
              | none => (0, E)
              | some fo => if fo.dir = true then (10, E) else if old = i then (0, E) else (0, putEx (takeEx (takeEx E jb (toB zb)) j (toB z)) jb (toB zb) i)
theorem placeE_bad {E : Et} {l : List UInt8} {c : Int} (h : placeE E l = (c, none)) : c = 14 ∨ c = 8 ∨ c = 11 := by
  unfold placeE at h
  repeat' split at h
  all_goals first
    | (injection h with h _; subst h; decide)
    | (injection h with _ h; cases h)
theorem placeE_good {E : Et} {l : List UInt8} {c j : Int} {nd : ENd} {z : List UInt8} (h : placeE E l = (c, some (j, nd, z))) : c = 0 ∧ look E.nodes j = some nd ∧ nd.dir = true := by
  unfold placeE at h
  repeat' split at h
  all_goals first
    | (injection h with _ h; cases h; done)
    | skip
  rename_i h1 _ _ h2 h3
  injection h with e1 e2
  injection e2 with e2
  injection e2 with e2 e3
  injection e3 with e3 e4
  subst e1 e2 e3
  exact ⟨rfl, h2, h3⟩
theorem Rep.place_bad {T : Tr} {E : Et} (h : Rep T E) (hd : (T.nodes.map (·.1)).Nodup) {l : List UInt8} {c : Int} (hp : placeE E l = (c, none)) : placeT T l = (c, none) := by
  unfold placeE at hp
  unfold placeT
  cases h1 : (namesL l).getLast? with
  | none =>
    rw [h1] at hp
    have hp' : ((14 : Int), (none : Option (Int × ENd × List UInt8))) = (c, none) := hp
    obtain ⟨rfl, _⟩ := Prod.mk.inj hp'
    rfl
  | some z2 =>
    rw [h1] at hp
    rw [h.walk hd]
    simp only at hp ⊢
    cases h2 : walkE E 1 (namesL l).dropLast with
    | none => rw [h2] at hp; simpa using hp
    | some j2 =>
      rw [h2] at hp
      simp only at hp ⊢
      have hl := h.look hd j2
      cases h3 : Go.Proofs.YtdjoahhcmkedhaaGreatDoor.look T.nodes j2 with
      | none => rw [h3] at hl; rw [← hl] at hp; simpa using hp
      | some nd =>
        rw [h3] at hl
        rw [← hl] at hp
        simp only [Option.map_some] at hp ⊢
        have e : nd.er.dir = nd.k.isSome := rfl
        rw [e] at hp
        cases h4 : nd.k with
        | none => rw [h4] at hp; simpa using hp
        | some k => rw [h4] at hp; simp at hp
theorem Rep.rm {T : Tr} {E : Et} (h : Rep T E) (hd : (T.nodes.map (·.1)).Nodup) (j : Int) (nd : Nd) (name : ByteArray) (i : Int) : Rep (rmT T j nd name i) (rmdirE E j nd.er name i) := by
  have h2 := h.setN hd j { nd with kids := del nd.kids name }
  have k2 := setN_nodup hd j { nd with kids := del nd.kids name }
  refine ⟨h.quota, h.next, ?_⟩
  show (erL (del (T.setN j { nd with kids := del nd.kids name }).nodes i)).Perm _
  have e : erL (del (T.setN j { nd with kids := del nd.kids name }).nodes i) = del (erL (T.setN j { nd with kids := del nd.kids name }).nodes) i := del_map Nd.er _ i
  rw [e]
  exact del_perm h2.nodes (by rw [erL_keys]; exact k2) i
theorem Rep.node {T : Tr} {E : Et} (h : Rep T E) (hd : (T.nodes.map (·.1)).Nodup) {i : Int} {ef : ENd} (he : Go.Proofs.YtdjoahhcmkedhaaGreatDoor.look E.nodes i = some ef) : ∃ f, Go.Proofs.YtdjoahhcmkedhaaGreatDoor.look T.nodes i = some f ∧ f.er = ef := by
  have hl := h.look hd i
  rw [he] at hl
  cases hf : Go.Proofs.YtdjoahhcmkedhaaGreatDoor.look T.nodes i with
  | none => rw [hf] at hl; cases hl
  | some f => rw [hf] at hl; injection hl with hl; exact ⟨f, rfl, hl⟩
theorem stepE_inv {E : Et} {B : Nat} (h : Inv E B) (o : OpE) : Inv (stepE E o).2 (B + 1) := by
  have hs := h.mono (Nat.le_succ B)
  unfold stepE
  split
  · exact hs
  split
  · exact hs
  rename_i c j nd z hp
  obtain ⟨_, hj, hnd⟩ := placeE_good hp
  split
  · exact hs
  rename_i hlen
  have hz : o.zs.length ≤ 3500 := by omega
  split
  · rename_i hx
    split
    · exact h.mkdir hj hnd hx
    · split
      · exact h.create hj hnd hx hz
      · exact hs
  · rename_i i hx
    split
    · exact hs
    split
    · exact hs
    rename_i f hi
    split
    · split
      · rename_i hf
        split
        · rename_i hk
          exact (h.rm hj hx hi hf (List.isEmpty_iff.1 hk)).mono (Nat.le_succ B)
        · exact hs
      · exact hs
    split
    · exact hs
    rename_i hf
    have hf2 : f.dir = false := by simpa using hf
    split
    · exact h.write hi hf2 hz
    split
    · exact (h.take hj hx hi hf2).mono (Nat.le_succ B)
    split
    · exact hs
    rename_i c2 jb ndb zb hp2
    obtain ⟨_, hjb, hndb⟩ := placeE_good hp2
    have htk : ∀ {a : Int} {n : ENd}, look E.nodes a = some n → n.dir = true → ∃ n', look (takeEx E j (toB z)).nodes a = some n' ∧ n'.dir = true ∧ (∀ s, look n.kids s = none → look n'.kids s = none) := fun {a n} ha hn => by
      unfold takeEx
      simp only [hj, hx, hi]
      rw [look_put, look_put]
      by_cases e1 : a = j
      · rw [if_pos e1]
        rw [e1, hj] at ha; injection ha with ha
        refine ⟨_, rfl, by rw [← ha] at hn; exact hn, fun s hs => ?_⟩
        show look (del nd.kids (toB z)) s = none
        rw [← ha] at hs
        by_cases e : s = toB z
        · rw [e]; exact look_del_same (h.names j nd hj) _
        · rw [look_del_ne e]; exact hs
      · rw [if_neg e1]
        by_cases e2 : a = i
        · rw [e2, hi] at ha; injection ha with ha; rw [← ha, hf2] at hn; cases hn
        · rw [if_neg e2]; exact ⟨n, ha, hn, fun s hs => hs⟩
    have hti : look (takeEx E j (toB z)).nodes i = some { f with places := f.places - 1 } := by
      have hij : i ≠ j := fun e => by rw [e, hj] at hi; injection hi with hi; rw [hi, hf2] at hnd; cases hnd
      unfold takeEx
      simp only [hj, hx, hi]
      rw [look_put, look_put, if_neg hij, if_pos rfl]
    split
    · rename_i hxb
      split
      · exact h.put (Nat.le_succ B) (by have := h.ents; omega) hjb hndb hxb hi hf2
      · have h2 := h.take hj hx hi hf2
        obtain ⟨n', g1, g2, g3⟩ := htk hjb hndb
        exact h2.put (Nat.le_succ B) (by have := h2.ents; omega) g1 g2 (g3 _ hxb) hti hf2
    · rename_i old hxb
      split
      · exact hs
      split
      · exact hs
      rename_i fo ho
      split
      · exact hs
      rename_i hfo
      have hfo2 : fo.dir = false := by simpa using hfo
      split
      · exact hs
      rename_i hne
      -- over another file
      have h1 := h.take hjb hxb ho hfo2
      have hlk1 : ∀ a, look (takeEx E jb (toB zb)).nodes a = if a = jb then some { ndb with kids := del ndb.kids (toB zb) } else if a = old then some { fo with places := fo.places - 1 } else look E.nodes a := fun a => by
        unfold takeEx
        simp only [hjb, hxb, ho]
        rw [look_put, look_put]
      have hij : i ≠ j := fun e => by rw [e, hj] at hi; injection hi with hi; rw [hi, hf2] at hnd; cases hnd
      have hijb : i ≠ jb := fun e => by rw [e, hjb] at hi; injection hi with hi; rw [hi, hf2] at hndb; cases hndb
      have hoj : old ≠ j := fun e => by rw [e, hj] at ho; injection ho with ho; rw [ho, hfo2] at hnd; cases hnd
      have hi1 : look (takeEx E jb (toB zb)).nodes i = some f := by rw [hlk1, if_neg hijb, if_neg (Ne.symm hne)]; exact hi
      obtain ⟨nd1, g1, g2, g3⟩ : ∃ nd1, look (takeEx E jb (toB zb)).nodes j = some nd1 ∧ nd1.dir = true ∧ look nd1.kids (toB z) = some i := by
        rw [hlk1]
        by_cases e : j = jb
        · rw [if_pos e]
          have e2 : ndb = nd := by rw [e, hjb] at hj; injection hj
          refine ⟨_, rfl, hndb, ?_⟩
          show look (del ndb.kids (toB zb)) (toB z) = some i
          have e3 : toB z ≠ toB zb := fun e3 => by rw [e2, ← e3, hx] at hxb; injection hxb with hxb; exact hne hxb.symm
          rw [look_del_ne e3, e2]; exact hx
        · rw [if_neg e, if_neg (Ne.symm hoj)]; exact ⟨nd, hj, hnd, hx⟩
      have h2 := h1.take g1 g3 hi1 hf2
      have hlk2 : ∀ a, look (takeEx (takeEx E jb (toB zb)) j (toB z)).nodes a = if a = j then some { nd1 with kids := del nd1.kids (toB z) } else if a = i then some { f with places := f.places - 1 } else look (takeEx E jb (toB zb)).nodes a := fun a => by
        have : takeEx (takeEx E jb (toB zb)) j (toB z) = { takeEx E jb (toB zb) with nodes := Go.Proofs.YtdjoahhcmkedhaaGreatDoor.put (Go.Proofs.YtdjoahhcmkedhaaGreatDoor.put (takeEx E jb (toB zb)).nodes i { f with places := f.places - 1 }) j { nd1 with kids := del nd1.kids (toB z) } } := by
          generalize takeEx E jb (toB zb) = E1 at *
          unfold takeEx
          simp only [g1, g3, hi1]
        rw [this]
        show look (Go.Proofs.YtdjoahhcmkedhaaGreatDoor.put (Go.Proofs.YtdjoahhcmkedhaaGreatDoor.put (takeEx E jb (toB zb)).nodes i { f with places := f.places - 1 }) j { nd1 with kids := del nd1.kids (toB z) }) a = _
        rw [look_put, look_put]
      have hti2 : look (takeEx (takeEx E jb (toB zb)) j (toB z)).nodes i = some { f with places := f.places - 1 } := by rw [hlk2, if_neg hij, if_pos rfl]
      have hnmb := h.names jb ndb hjb
      obtain ⟨ndb2, k1, k2, k3⟩ : ∃ n, look (takeEx (takeEx E jb (toB zb)) j (toB z)).nodes jb = some n ∧ n.dir = true ∧ look n.kids (toB zb) = none := by
        rw [hlk2]
        by_cases e : jb = j
        · rw [if_pos e]
          refine ⟨_, rfl, g2, ?_⟩
          show look (del nd1.kids (toB z)) (toB zb) = none
          have e1 : nd1 = { ndb with kids := del ndb.kids (toB zb) } := by
            have := g1
            rw [hlk1, if_pos e.symm] at this
            injection this with this
            exact this.symm
          have e4 : look nd1.kids (toB zb) = none := by rw [e1]; exact look_del_same hnmb _
          by_cases e3 : toB zb = toB z
          · rw [e3]; exact look_del_same (h1.names j nd1 g1) _
          · rw [look_del_ne e3]; exact e4
        · rw [if_neg e, if_neg (Ne.symm hijb), hlk1, if_pos rfl]
          exact ⟨_, rfl, hndb, look_del_same hnmb _⟩
      exact h2.put (Nat.le_succ B) (by have := h2.ents; omega) k1 k2 k3 hti2 hf2
set_option maxHeartbeats 2000000 in
theorem do_total {w0 w : World} {S : Blocks} {L : List Rw} {t : Nat} {T : Tr} {E : Et} {B : Nat} (hO : Own ⟨w0, S⟩ w L) (H : Tree S (Pc L) t T) (hR : Rep T E) (I : Inv E B) (hB : B ≤ 100000000) (hm : Mx w) (κ : Int) (p q : ByteArray) (hp : p.size ≤ maxLen) (hq : q.size ≤ maxLen) {va : Option Addr} {vc : Nat} {zs : List Int} (hv : Byo w0 S (t :: T.foot) L (.slice va zs.length vc) zs) {c0 : Int} {E' : Et} (hE : stepE E ⟨κ, p.data.toList, q.data.toList, zs⟩ = (c0, E')) :
    Calls Tryz.prog 34 #[.pointer (some ⟨t, 0, none⟩), .agg (opL κ p q (.slice va zs.length vc)).toArray] w (DoL w0 S L t T w (fun T' => Rep T' E') (.int .i64 c0)) := by
  have hd := H.good.keys
  have hsame : ∀ {T' : Tr}, T' = T → Rep T' E := fun e => by rw [e]; exact hR
  have hn1 : 1 ≤ T.next := by have := I.first; rw [hR.next]; omega
  have hn2 : T.next ≤ 1000000000 := by have := I.nx; rw [hR.next]; omega
  have hfl : ∀ {i : Int} {ef : ENd}, look E.nodes i = some ef → ef.dir = false → ∃ f, Fl T i f ∧ f.er = ef := fun {i ef} h1 h2 => by
    have h3 := (I.file i ef h1 h2).2
    have h4 := refs_le E.nodes i
    have h5 := I.ents
    exact hR.file hd h1 h2 (by omega) (by omega)
  unfold stepE at hE
  simp only at hE
  split at hE
  · rename_i hk
    obtain ⟨rfl, rfl⟩ := Prod.mk.inj hE
    exact (do_kind hO H κ hk p q).mono fun e w2 hd2 => hd2.imp fun T' e1 => hsame e1
  rename_i hk
  have k0 : ¬ κ < 0 := fun h => hk (.inl h)
  have k6 : ¬ 6 < κ := fun h => hk (.inr h)
  split at hE
  · rename_i c1 hpl
    have hc := hR.place_bad hd hpl
    obtain ⟨rfl, rfl⟩ := Prod.mk.inj hE
    refine (do_bad hO H hm κ k0 k6 p q hp hc ?_).mono fun e w2 hd2 => hd2.imp fun T' e1 => hsame e1
    rcases placeE_bad hpl with rfl | rfl | rfl <;> rfl
  rename_i c9 j en z hpl
  obtain ⟨rfl, hje, hen⟩ := placeE_good hpl
  obtain ⟨nd, k, hc, ha, her⟩ := hR.place hd hpl
  have hkids : nd.kids = en.kids := congrArg ENd.kids her
  split at hE
  · rename_i hlen
    obtain ⟨rfl, rfl⟩ := Prod.mk.inj hE
    exact (do_long hO H hm κ k0 k6 p q hp (by exact_mod_cast hlen) hc ha).mono fun e w2 hd2 => hd2.imp fun T' e1 => hsame e1
  rename_i hlen0
  have hlen : zs.length ≤ 3500 := by omega
  have hlenI : ¬ (3500 : Int) < (zs.length : Int) := by omega
  have hl2 : zs.length ≤ 140737488355328 := by omega
  split at hE
  · rename_i hx
    rw [← hkids] at hx
    split at hE
    · rename_i h0
      subst h0
      obtain ⟨rfl, rfl⟩ := Prod.mk.inj hE
      exact do_grow0 hO H hm p q hp hlen hc ha hx fun S' w' h1 h2 _ _ => (growDir_any h1 h2 ha.there ha.dir (toB z) p q _ ⟨_, _, _, rfl⟩ hn1 hn2).mono fun e w2 hd2 => hd2.imp fun T' ⟨n, e1, e2⟩ => by
        rw [e2, ← her]; exact hR.mkdir hd (toB z) e1
    · rename_i k00
      split at hE
      · rename_i h0
        subst h0
        obtain ⟨rfl, rfl⟩ := Prod.mk.inj hE
        exact do_grow2 hO H hm p q hp hlen hc ha hx fun S' w' h1 h2 hss _ => (growFile_any h1 h2 ha.there ha.dir (toB z) p q _ zs (hv.mono hss (fun _ _ _ h => h) (fun _ h => h)) hl2 hn1 hn2).mono fun e w2 hd2 => hd2.imp fun T' ⟨n, e1, e2⟩ => by
          rw [e2, ← her]; exact hR.create hd (toB z) e1
      · rename_i k02
        obtain ⟨rfl, rfl⟩ := Prod.mk.inj hE
        exact (do_none hO H hm κ k0 k6 (by simpa using k00) (by simpa using k02) p q hp hlenI hc ha hx).mono fun e w2 hd2 => hd2.imp fun T' e1 => hsame e1
  · rename_i i hx
    have hxe := hx
    rw [← hkids] at hx
    split at hE
    · rename_i h02
      obtain ⟨rfl, rfl⟩ := Prod.mk.inj hE
      exact (do_twice hO H hm κ h02 p q hp hlenI hc ha hx).mono fun e w2 hd2 => hd2.imp fun T' e1 => hsame e1
    rename_i h02
    have k00 : (κ == 0) = false := by simpa using fun h => h02 (.inl h)
    have k02 : (κ == 2) = false := by simpa using fun h => h02 (.inr h)
    split at hE
    · rename_i hef
      obtain ⟨m, hm1, _⟩ := I.kids j en hje _ (look_mem hxe)
      rw [hef] at hm1; cases hm1
    rename_i ef hef
    obtain ⟨f, hfi, hfe⟩ := hR.node hd hef
    split at hE
    · rename_i h1
      subst h1
      split at hE
      · rename_i hdir
        have hfk : f.k.isSome = true := (congrArg ENd.dir hfe).trans hdir
        obtain ⟨kf, hkf⟩ := Option.isSome_iff_exists.1 hfk
        have hfkids : f.kids = ef.kids := congrArg ENd.kids hfe
        split at hE
        · rename_i hemp
          have hke := List.isEmpty_iff.1 hemp
          obtain ⟨hi1, hlone⟩ := I.lone hje hxe hef hdir
          have hno : ∀ x ∈ (T.setN j { nd with kids := del nd.kids (toB z) }).nodes, ∀ y ∈ x.2.kids, y.2 ≠ i := fun x hx y hy => by
            have h3 := (hR.setN hd j { nd with kids := del nd.kids (toB z) }).nodes.subset (er_mem hx)
            rw [show ({ nd with kids := del nd.kids (toB z) } : Nd).er = { en with kids := del en.kids (toB z) } by unfold Nd.er at her ⊢; rw [← her]] at h3
            exact refs_zero hlone h3 hy
          obtain ⟨rfl, rfl⟩ := Prod.mk.inj hE
          exact do_rm hO H hm p q hp hlenI hc ha hx fun S' w' h1 h2 => (rmdir_ok h1 h2 ha (toB z) hfi hkf (hfkids.trans hke) hi1 hno).mono fun e w2 hd2 => hd2.imp fun T' e1 => by
            rw [e1, ← her]; exact hR.rm hd j nd (toB z) i
        · rename_i hemp
          have hpos : 0 < f.kids.length := by
            rw [hfkids]
            exact List.length_pos_iff.2 fun e => hemp (by rw [e]; rfl)
          obtain ⟨rfl, rfl⟩ := Prod.mk.inj hE
          exact (do_rm hO H hm p q hp hlenI hc ha hx fun S' w' h1 h2 => rmdir_busy h1 h2 (toB z) hfi hkf hpos).mono fun e w2 hd2 => hd2.imp fun T' e1 => hsame e1
      · rename_i hdir
        have hfk : f.k = none := by
          have : f.k.isSome = ef.dir := congrArg ENd.dir hfe
          cases hk2 : f.k with
          | none => rfl
          | some k => rw [hk2] at this; exact absurd this.symm hdir
        obtain ⟨rfl, rfl⟩ := Prod.mk.inj hE
        exact (do_rm hO H hm p q hp hlenI hc ha hx fun S' w' h1 h2 => rmdir_file h1 h2 (toB z) hfi hfk).mono fun e w2 hd2 => hd2.imp fun T' e1 => hsame e1
    rename_i k01
    have k01 : (κ == 1) = false := by simpa using k01
    split at hE
    · rename_i hdir
      obtain ⟨rfl, rfl⟩ := Prod.mk.inj hE
      exact (do_isdir hO H hm κ k0 k6 k00 k01 k02 p q hp hlenI hc ha hx hfi ((congrArg ENd.dir hfe).trans hdir)).mono fun e w2 hd2 => hd2.imp fun T' e1 => hsame e1
    rename_i hdir
    have hdir2 : ef.dir = false := by simpa using hdir
    obtain ⟨f', g, hfe'⟩ := hfl hef hdir2
    have hff : f' = f := by have := g.there; rw [hfi] at this; injection this with this; exact this.symm
    subst hff
    have hp1 : 1 ≤ f'.places := by
      have h1 : f'.places = ef.places := congrArg ENd.places hfe
      have h2 := (I.file i ef hef hdir2).2
      have h3 := refs_pos (look_mem hje) (look_mem hxe)
      rw [h1, h2]; exact_mod_cast h3
    split at hE
    · rename_i h0
      subst h0
      obtain ⟨rfl, rfl⟩ := Prod.mk.inj hE
      exact do_turn3 hO H hm p q hp hlen hc ha hx g fun S' w' h1 h2 hss _ => (turn_write h1 h2 g p q _ zs (hv.mono hss (fun _ _ _ h => h) (fun _ h => h)) hl2).mono fun e w2 hd2 => hd2.imp fun T' ⟨f2, e1, e2⟩ => by
        rw [e2]; exact hR.write hd i (by rw [e1, hfe])
    rename_i k03
    split at hE
    · rename_i h0
      subst h0
      obtain ⟨rfl, rfl⟩ := Prod.mk.inj hE
      exact do_turn6 hO H hm p q hp hlen hc ha hx g fun S' w' h1 h2 _ _ => (turn_unlink h1 h2 ha hx g p q _ ⟨_, _, _, rfl⟩).mono fun e w2 hd2 => hd2.imp fun T' e1 => by
        rw [e1]; exact hR.take hd j (toB z)
    rename_i k06
    have h45 : κ = 4 ∨ κ = 5 := by
      simp only [beq_eq_false_iff_ne] at k00 k01 k02
      omega
    split at hE
    · rename_i c2 hpl2
      have hc2 := hR.place_bad hd hpl2
      have hc20 : (c2 != 0) = true := by rcases placeE_bad hpl2 with rfl | rfl | rfl <;> rfl
      rcases h45 with rfl | rfl
      · obtain ⟨rfl, rfl⟩ := Prod.mk.inj hE
        exact (do_turn4 hO H hm p q hp hlen hc ha hx g fun S' w' h1 h2 _ hm2 => turn_bad h1 h2 hm2 (.inl rfl) p q hq _ ⟨_, _, _, rfl⟩ hc2 hc20).mono fun e w2 hd2 => hd2.imp fun T' e1 => hsame e1
      · obtain ⟨rfl, rfl⟩ := Prod.mk.inj hE
        exact (do_turn5 hO H hm p q hp hlen hc ha hx g fun S' w' h1 h2 _ hm2 => turn_bad h1 h2 hm2 (.inr rfl) p q hq _ ⟨_, _, _, rfl⟩ hc2 hc20).mono fun e w2 hd2 => hd2.imp fun T' e1 => hsame e1
    rename_i c2 jb enb zb hplb
    obtain ⟨rfl, hjbe, henb⟩ := placeE_good hplb
    obtain ⟨ndb, kb, hcb, hab, herb⟩ := hR.place hd hplb
    have hkidsb : ndb.kids = enb.kids := congrArg ENd.kids herb
    split at hE
    · rename_i hxb
      rw [← hkidsb] at hxb
      split at hE
      · rename_i h0
        subst h0
        obtain ⟨rfl, rfl⟩ := Prod.mk.inj hE
        exact do_turn4 hO H hm p q hp hlen hc ha hx g fun S' w' h1 h2 _ hm2 => (turn_link h1 h2 hm2 p q hq _ ⟨_, _, _, rfl⟩ hcb fun S3 w3 h3 h4 => link_ok h3 h4 hab.there hab.dir (toB zb) hxb g.there g.file g.low g.high).mono fun e w2 hd2 => hd2.imp fun T' e1 => by
          rw [e1, ← putTx_of (toB zb) hab.there g.there]; exact hR.put hd jb (toB zb) i
      · rename_i h0
        obtain rfl : κ = 5 := h45.resolve_left h0
        obtain ⟨rfl, rfl⟩ := Prod.mk.inj hE
        exact do_turn5 hO H hm p q hp hlen hc ha hx g fun S' w' h1 h2 _ hm2 => (turn_rename h1 h2 hm2 p q hq _ ⟨_, _, _, rfl⟩ hcb fun S3 w3 h3 h4 => rename_free h3 h4 ha hab hx g hp1 hxb).mono fun e w2 hd2 => hd2.imp fun T' e1 => by
          rw [e1]; exact (hR.take hd j (toB z)).put (takeTx_nodup hd j (toB z)) jb (toB zb) i
    · rename_i old hxb
      have hxbe := hxb
      rw [← hkidsb] at hxb
      split at hE
      · rename_i h0
        subst h0
        obtain ⟨rfl, rfl⟩ := Prod.mk.inj hE
        exact (do_turn4 hO H hm p q hp hlen hc ha hx g fun S' w' h1 h2 _ hm2 => turn_link h1 h2 hm2 p q hq _ ⟨_, _, _, rfl⟩ hcb fun S3 w3 h3 h4 => link_twice h3 h4 hab.there hab.dir (toB zb) i hxb).mono fun e w2 hd2 => hd2.imp fun T' e1 => hsame e1
      rename_i h0
      obtain rfl : κ = 5 := h45.resolve_left h0
      split at hE
      · rename_i hefo
        obtain ⟨m, hm1, _⟩ := I.kids jb enb hjbe _ (look_mem hxbe)
        rw [hefo] at hm1; cases hm1
      rename_i efo hefo
      obtain ⟨fo, hfoi, hfoe⟩ := hR.node hd hefo
      split at hE
      · rename_i hdo
        obtain ⟨rfl, rfl⟩ := Prod.mk.inj hE
        exact (do_turn5 hO H hm p q hp hlen hc ha hx g fun S' w' h1 h2 _ hm2 => turn_rename h1 h2 hm2 p q hq _ ⟨_, _, _, rfl⟩ hcb fun S3 w3 h3 h4 => rename_still h3 h4 hab hxb hfoi (.inl ⟨(congrArg ENd.dir hfoe).trans hdo, rfl⟩)).mono fun e w2 hd2 => hd2.imp fun T' e1 => hsame e1
      rename_i hdo
      have hdo2 : efo.dir = false := by simpa using hdo
      obtain ⟨fo', go, hfoe'⟩ := hfl hefo hdo2
      split at hE
      · rename_i heq
        obtain ⟨rfl, rfl⟩ := Prod.mk.inj hE
        exact (do_turn5 hO H hm p q hp hlen hc ha hx g fun S' w' h1 h2 _ hm2 => turn_rename h1 h2 hm2 p q hq _ ⟨_, _, _, rfl⟩ hcb fun S3 w3 h3 h4 => rename_still h3 h4 hab hxb go.there (.inr ⟨by rw [go.file]; rfl, heq, rfl⟩)).mono fun e w2 hd2 => hd2.imp fun T' e1 => hsame e1
      · rename_i hne
        obtain ⟨rfl, rfl⟩ := Prod.mk.inj hE
        exact do_turn5 hO H hm p q hp hlen hc ha hx g fun S' w' h1 h2 _ hm2 => (turn_rename h1 h2 hm2 p q hq _ ⟨_, _, _, rfl⟩ hcb fun S3 w3 h3 h4 => rename_over h3 h4 ha hab hx g hp1 hxb go hne).mono fun e w2 hd2 => hd2.imp fun T' e1 => by
          rw [e1]; exact ((hR.take hd jb (toB zb)).take (takeTx_nodup hd jb (toB zb)) j (toB z)).put (takeTx_nodup (takeTx_nodup hd jb (toB zb)) j (toB z)) jb (toB zb) i
end Go.Proofs.YtdjoahhcmkedhaaGreatDoor
end

/- over; Do, of whatever operations. -/
section
namespace Go.Proofs.YtdjoahhcmkedhaaGreatDoor
open Go.RowKit
open Go.ChangeMaps (setBlock)
set_option linter.unusedVariables false
set_option linter.unusedSimpArgs false
set_option maxRecDepth 100000

theorem over_full {w : World} {D : Value → List Int → Prop} {t : Nat} {T : Tr} (H : TreeIn (inW w) D t T) (h1 : 128 < T.nodes.length) :
    Calls Tryz.prog 35 #[.pointer (some ⟨t, 0, none⟩)] w fun e w' => e = .returned (.int .i64 7) ∧ Below w.heap.size w w' := by
  have hn := nodes_any H
  have b1 : (128 < (T.nodes.length : Int)) := by omega
  clear H h1
  generalize T.nodes.length = m at *
  go_enter Tryz.func35, Tryz.ntmps35
  go_wp2_with (go_at_call 24; refine hn.mono ?_; rintro e w' ⟨rfl, rfl⟩)
  go_ret
  exact ⟨rfl, Below.refl _ w⟩
set_option maxHeartbeats 1000000 in
theorem over_quota {w : World} {D : Value → List Int → Prop} {t : Nat} {T : Tr} (H : TreeIn (inW w) D t T) (hu : sumT T.nodes ≤ 1000000000) (h1 : T.nodes.length ≤ 128) (h2 : T.quota < (sumT T.nodes : Int)) :
    Calls Tryz.prog 35 #[.pointer (some ⟨t, 0, none⟩)] w fun e w' => e = .returned (.int .i64 13) ∧ Below w.heap.size w w' := by
  have hn := nodes_any H
  have hus := used_any (w := w.drew) (H.later (Below.refl _ w).drew) hu
  have c0 := H.at0.1
  have hS : ∀ w', Below w.heap.size w.drew w' → w'.cell? ⟨t, 0, none⟩ = some (.int .i64 T.quota) := fun w' hb => (H.later ((Below.refl _ w).drew.trans hb)).at0.1
  have b1 : ¬ (128 < (T.nodes.length : Int)) := by omega
  clear H hu h1
  generalize sumT T.nodes = s at *
  generalize T.nodes.length = m at *
  generalize T.quota = qq at *
  go_enter Tryz.func35, Tryz.ntmps35
  go_wp2_with (go_at_call 24; refine hn.mono ?_; rintro e w' ⟨rfl, rfl⟩)
  go_region_held3 (fun w' : World => w'.cell? ⟨t, 0, none⟩ = some (.int .i64 qq)) (first | exact c0 | exact hS _ (Below.refl _ _) | exact hS _ hb3) (first | (go_at_call 25; refine hus.mono ?_; rintro e w3 ⟨rfl, hb3⟩))
  all_goals go_wp2_with fail
  all_goals go_ret
  all_goals exact ⟨rfl, (Below.refl _ w).drew.trans hb3⟩
/-- Of what there is too much: what over tells. -/
def overT (T : Tr) : Int := if 128 < T.nodes.length then 7 else if T.quota < (sumT T.nodes : Int) then 13 else 0
theorem over_any {w : World} {D : Value → List Int → Prop} {t : Nat} {T : Tr} (H : TreeIn (inW w) D t T) (hu : sumT T.nodes ≤ 1000000000) :
    Calls Tryz.prog 35 #[.pointer (some ⟨t, 0, none⟩)] w fun e w' => e = .returned (.int .i64 (overT T)) ∧ Below w.heap.size w w' := by
  unfold overT
  by_cases h1 : 128 < T.nodes.length
  · rw [if_pos h1]; exact over_full H h1
  · rw [if_neg h1]
    by_cases h2 : T.quota < (sumT T.nodes : Int)
    · rw [if_pos h2]; exact over_quota H hu (by omega) h2
    · rw [if_neg h2]; exact over_ok H hu (by omega) (by omega)
/-- The tree is as it was, beside whatever was made. -/
theorem DoL.kept {w0 w w4 : World} {S S4 : Blocks} {L L4 : List Rw} {t : Nat} {T : Tr} {R : Tr → Prop} (r : Value) (hO : Own ⟨w0, S4⟩ w4 L4) (H : Tree S (Pc L) t T) (hs : ∀ b x, (b, x) ∈ S → (b, x) ∈ S4) (hL : ∀ x ∈ L, x ∈ L4) (hR : R T) : DoL w0 S L t T w R r (.returned r) w4 :=
  ⟨S4, L4, T, rfl, hO, hL, H.mono (fun b x _ hx => hs b x hx) (fun v zs h => h.mono hL), ⟨fun b x hb _ => hs b x hb, fun b hb => .inl hb⟩, hR⟩
set_option maxHeartbeats 4000000 in
theorem do_gen {w0 w : World} {S : Blocks} {L : List Rw} {t : Nat} {T : Tr} (hO : Own ⟨w0, S⟩ w L) (H : Tree S (Pc L) t T) (hm : Mx w) (hmx : ∀ S' L' w', Own ⟨w0, S'⟩ w' L' → Mx w') (a : Option Addr) (ops : List OpD) (cap : Nat) (hn : ops.length ≤ 1000000) (code : Nat → Int)
    (hops : ∀ w' S' L', Own ⟨w0, S'⟩ w' L' → (∀ b x, (b, x) ∈ S → (b, x) ∈ S') → (∀ x ∈ L, x ∈ L') → ∀ i (h : i < ops.length), ∃ g off, a = some ⟨g, off, none⟩ ∧ w'.rangeAt g (off + i * 4) ops[i].cells) {P : Nat → Tr → Prop} (hP0 : ∀ T', Same T T' → P 0 T')
    (hstep : ∀ c i (h : i < ops.length) S' L' T' w', (∀ i' < i, code i' = 0) → Own ⟨w0, S'⟩ w' L' → (∀ x ∈ L, x ∈ L') → Tree S' (Pc L') c T' → (∀ b x, (b, x) ∈ S → (b, x) ∈ S') → (∀ b ∈ c :: T'.foot, w.heap.size ≤ b) → P i T' → Mx w' → Calls Tryz.prog 34 #[.pointer (some ⟨c, 0, none⟩), .agg ops[i].cells.toArray] w' (DoL w0 S' L' c T' w' (P (i + 1)) (.int .i64 (code i))))
    {r : Int} {R : Tr → Prop} (hbad : ∀ k < ops.length, code k ≠ 0 → (∀ i < k, code i = 0) → r = code k ∧ R T)
    (hend : (∀ i < ops.length, code i = 0) → ∀ T', P ops.length T' → sumT T'.nodes ≤ 1000000000 ∧ r = overT T' ∧ (r = 0 → R T') ∧ (r ≠ 0 → R T)) :
    Calls Tryz.prog 14 #[.pointer (some ⟨t, 0, none⟩), .slice a ops.length cap] w (DoL w0 S L t T w R (.int .i64 r)) := by
  have hlt : ∀ b x, (b, x) ∈ S → b < w.heap.size := fun b x hb => (hO.atLt hb).2
  have htl : t < w.heap.size := hlt _ _ H.at_.cells
  have hcl := clone_t hO H
  have HT := Lib.hid H
  have HOps := Lib.hid hops
  have HStep := Lib.hid hstep
  have HEnd := Lib.hid hend
  have HBad := Lib.hid hbad
  have HP0 := Lib.hid hP0
  clear hops hstep hend hP0 H hbad
  have hsz0 := hO.size
  clear hO
  go_enter Tryz.func14, Tryz.ntmps14
  go_wp2_with fail
  refine hcl.mono ?_
  rintro e wc ⟨c, S1, T1, rfl, h1, h2, h3, h4, h5⟩
  have hwc : w.heap.size ≤ wc.heap.size := by
    have := (h1.atLt h2.at_.cells).2
    have := h4 c (List.mem_cons_self ..)
    omega
  have HR := Lib.hid (show DoRel w0 S L w c P 0 wc from ⟨S1, L, T1, h1, fun _ h => h, h2, h3, h4, HP0.out _ h5, hmx _ _ _ h1, hwc⟩)
  clear hcl h1 h2 h3 h4 h5 HP0
  go_wp2_with fail
  go_loopw [14] (fun i wr => ∃ k : Nat, k ≤ ops.length ∧ i = .int .i64 k ∧ Hid (∀ i < k, code i = 0) ∧ DoRel w0 S L w c P k wr) (fun i _ => ops.length - (intOf i).toNat)
  case atStart => exact ⟨0, Nat.zero_le _, rfl, Lib.hid (fun i hi => absurd hi (Nat.not_lt_zero _)), HR.out⟩
  case round =>
    obtain ⟨k, hk, rfl, HZ, hR⟩ := hrel
    have HR1 := Lib.hid hR
    obtain ⟨S2, L2, T2, k1, k2, k3, k4, k5, k6, k7, k8⟩ := hR
    by_cases hkl : k < ops.length
    · obtain ⟨g, off, rfl, hr⟩ := HOps.out wr S2 L2 k1 k4 k2 k hkl
      have Hr := Lib.hid hr
      clear hr
      have HO := Lib.hid k1
      obtain ⟨od, hod⟩ : ∃ od, od = ops[k] := ⟨_, rfl⟩
      rw [← hod] at Hr
      have hstep2 := fun S' L' T' w' => HStep.out c k hkl S' L' T' w' HZ.out
      rw [← hod] at hstep2
      have Hs2 := Lib.hid hstep2
      have Hone := Lib.hid (op_one od)
      have hb63 : (k : Int) < (ops.length : Int) := by exact_mod_cast hkl
      clear hstep2 hod
      go_wp2_with (first
        | (refine wpList_load_mid rfl 38 (.tmp 16) rfl g (off + k * 4) rfl od.cells _ Hr.out Tryz.underlying38 rfl (info_op _) ?_)
        | (refine wpList_store_new rfl 38 (.tmp 7) (.tmp 17) rfl HO.out od.cells wr.heap.size rfl rfl rfl rfl (info_op _) Hone.out ?_))
      intro w3 hO3 hlt3
      have Hr2 := Lib.hid (show w3.rangeAt wr.heap.size 0 od.cells from by
        have h1 := Own.range (h := hO3) 0 4
        exact h1)
      have hcall := Hs2.out S2 _ T2 w3 hO3 (fun x hx => List.mem_cons_of_mem _ (k2 x hx)) (k3.mono (fun b x _ hx => hx) (fun v zs h => h.cons _)) k4 k5 k6 (hmx _ _ _ hO3)
      rcases Classical.em (code k = 0) with hck | hck
      · rw [hck] at hcall
        have hfin : ∀ e w4, DoL w0 S2 (⟨38, 4, .slice (some ⟨wr.heap.size, 0, none⟩) 1 1, 1, od.cells⟩ :: L2) c T2 w3 (P (k + 1)) (.int .i64 0) e w4 → e = .returned (.int .i64 0) ∧ DoRel w0 S L w c P (k + 1) w4 := fun e w4 hd => DoRel.step hd (fun x hx => List.mem_cons_of_mem _ (k2 x hx)) k4 k5 hlt (by omega) hmx
        have HF := Lib.hid hfin
        have HZ1 := Lib.hid (show ∀ i < k + 1, code i = 0 from fun i hi => by
          rcases Nat.lt_succ_iff_lt_or_eq.1 hi with h | h
          · exact HZ.out i h
          · rw [h]; exact hck)
        clear hfin hO3 Hr HO Hone Hs2 k1 k2 k3 k4 k5 k6 k7 HR1 HStep HEnd HOps HT HBad HZ hck
        go_wp2_with (refine wpList_load_mid rfl 38 (.tmp 7) rfl wr.heap.size 0 rfl od.cells _ Hr2.out Tryz.underlying38 rfl (info_op _) ?_)
        refine hcall.mono ?_
        rintro e w4 hd
        obtain ⟨rfl, hR4⟩ := HF.out e w4 hd
        have HR4 := Lib.hid hR4
        clear hd hR4 hcall HF Hr2
        go_wp2_with fail
        go_roundw
        case rel => exact ⟨k + 1, by omega, by go_num, HZ1, HR4.out⟩
        case measure => simp [intOf]; omega
      · obtain ⟨hrk, hRT⟩ := HBad.out k hkl hck HZ.out
        have hck0 : (r != 0) = true := by rw [hrk]; simpa using hck
        rw [← hrk] at hcall
        have hfin : ∀ e w4, DoL w0 S2 (⟨38, 4, .slice (some ⟨wr.heap.size, 0, none⟩) 1 1, 1, od.cells⟩ :: L2) c T2 w3 (P (k + 1)) (.int .i64 r) e w4 → e = .returned (.int .i64 r) ∧ DoL w0 S L t T w R (.int .i64 r) (.returned (.int .i64 r)) w4 := fun e w4 hd => by
          obtain ⟨S4, L4, T4, q1, q2, q3, q4, q5, q6⟩ := hd
          exact ⟨q1, DoL.kept _ q2 HT.out (fun b x hb => q5.kept b x (k4 b x hb) fun hb2 => by
            have := hlt b x hb
            have := k5 b hb2
            omega) (fun x hx => q3 x (List.mem_cons_of_mem _ (k2 x hx))) hRT⟩
        have HF := Lib.hid hfin
        clear hfin hO3 Hr HO Hone Hs2 k1 k2 k3 k4 k5 k6 k7 HR1 HStep HEnd HOps HT HBad HZ hck hRT hrk
        go_wp2_with (refine wpList_load_mid rfl 38 (.tmp 7) rfl wr.heap.size 0 rfl od.cells _ Hr2.out Tryz.underlying38 rfl (info_op _) ?_)
        refine hcall.mono ?_
        rintro e w4 hd
        obtain ⟨rfl, hR4⟩ := HF.out e w4 hd
        have HR4 := Lib.hid hR4
        clear hd hR4 hcall HF Hr2
        go_wp2_with fail
        go_ret
        exact HR4.out
    · obtain rfl : k = ops.length := by omega
      obtain ⟨z1, z2, z3, z4⟩ := HEnd.out HZ.out T2 k6
      have hov := over_any (k3.at_.inWorld k1) z1
      rw [← z2] at hov
      have hb63 : ¬ ((ops.length : Int) < (ops.length : Int)) := Int.lt_irrefl _
      have hgen : ∀ w5, Below wr.heap.size wr w5 → (w5.cell? ⟨c, 0, none⟩ = some (.int .i64 T2.quota) ∧ w5.cell? ⟨c, 1, none⟩ = some (.int .i64 T2.next) ∧ w5.cell? ⟨c, 2, none⟩ = some (.map (some T2.bm))) ∧ (w5.frozen? ⟨t, 0, none⟩ = false ∧ w5.frozen? ⟨t, 1, none⟩ = false ∧ w5.frozen? ⟨t, 2, none⟩ = false) ∧ (w5.cell? ⟨t, 0, none⟩ = some (.int .i64 T.quota) ∧ w5.cell? ⟨t, 1, none⟩ = some (.int .i64 T.next) ∧ w5.cell? ⟨t, 2, none⟩ = some (.map (some T.bm))) := by
        intro w5 hb
        have h5 := k1.later hb
        have ht5 := h5.at (k4 _ _ HT.out.at_.cells)
        exact ⟨(k3.at_.inWorld h5).at0, ⟨free_at ht5 0, free_at ht5 1, free_at ht5 2⟩, cell_at ht5 0, cell_at ht5 1, cell_at ht5 2⟩
      have Hgen := Lib.hid hgen
      clear hgen
      rcases Classical.em (r = 0) with hr0 | hr0
      · have z5 := z3 hr0
        clear z3 z4 z2
        subst hr0
        go_wp2_with fail
        refine hov.mono ?_
        rintro e w5 ⟨rfl, hb5⟩
        obtain ⟨⟨a0, a1, a2⟩, ⟨f0, f1, f2⟩, b0, b1, b2⟩ := Hgen.out w5 hb5
        go_wp2_with fail
        go_ret
        have ht5 := k4 _ _ HT.out.at_.cells
        refine ⟨_, L2, T2, rfl, store3 (k1.later hb5) ht5, k2, k3.moved ht5 (fun hm => by have := k5 t (List.mem_cons_of_mem _ hm); omega), ⟨fun b x hb hnb => upd_other (k4 b x hb) (fun e => hnb (e ▸ List.mem_cons_self ..)) _, fun b hb => ?_⟩, z5⟩
        rcases List.mem_cons.1 hb with rfl | hb
        · exact .inl (List.mem_cons_self ..)
        · exact .inr (k5 b (List.mem_cons_of_mem _ hb))
      · have z5 := z4 hr0
        have hr1 : (r != 0) = true := by simpa using hr0
        clear z3 z4 z2 hr0
        go_wp2_with fail
        refine hov.mono ?_
        rintro e w5 ⟨rfl, hb5⟩
        have HK := Lib.hid (show DoL w0 S L t T w R (.int .i64 r) (.returned (.int .i64 r)) w5 from DoL.kept _ (k1.later hb5) HT.out k4 k2 z5)
        clear hov Hgen k1 k2 k3 k4 k5 k6 k7 HR1 HStep HEnd HOps HT HBad HZ z1 z5
        go_wp2_with fail
        go_ret
        exact HK.out
end Go.Proofs.YtdjoahhcmkedhaaGreatDoor
end

/- Do, of whatever operations, against the plain state. -/
section
namespace Go.Proofs.YtdjoahhcmkedhaaGreatDoor
open Go.RowKit
open Go.ChangeMaps (setBlock)
set_option linter.unusedVariables false
set_option linter.unusedSimpArgs false
set_option maxRecDepth 100000

/-- Operations one by one, till the first that is refused. -/
def doS (E : Et) : List OpE → Int × Et
  | [] => (0, E)
  | o :: r => if (stepE E o).1 = 0 then doS (stepE E o).2 r else ((stepE E o).1, E)
def overE (E : Et) : Int := if 128 < E.nodes.length then 7 else if E.quota < (sumE E.nodes : Int) then 13 else 0
/-- Operations all at once, or not at all. -/
def DoE (E : Et) (xs : List OpE) : Int × Et :=
  if (doS E xs).1 = 0 then (if overE (doS E xs).2 = 0 then (0, (doS E xs).2) else (overE (doS E xs).2, E)) else ((doS E xs).1, E)
def stE (E : Et) (xs : List OpE) (i : Nat) : Et := (xs.take i).foldl (fun E o => (stepE E o).2) E
def codeE (E : Et) (xs : List OpE) (i : Nat) : Int := match xs[i]? with
  | some o => (stepE (stE E xs i) o).1
  | none => 0
theorem stE_succ {E : Et} {xs : List OpE} {i : Nat} (h : i < xs.length) : stE E xs (i + 1) = (stepE (stE E xs i) xs[i]).2 := by
  unfold stE
  rw [List.take_succ_eq_append_getElem h, List.foldl_append]; rfl
theorem codeE_at {E : Et} {xs : List OpE} {i : Nat} (h : i < xs.length) : codeE E xs i = (stepE (stE E xs i) xs[i]).1 := by
  unfold codeE
  rw [List.getElem?_eq_getElem h]
theorem codeE_cons (E : Et) (o : OpE) (r : List OpE) (i : Nat) : codeE E (o :: r) (i + 1) = codeE (stepE E o).2 r i := by
  unfold codeE stE
  simp only [List.getElem?_cons_succ, List.take_succ_cons, List.foldl_cons]
theorem doS_ok : ∀ (xs : List OpE) (E : Et), (∀ i < xs.length, codeE E xs i = 0) → doS E xs = (0, stE E xs xs.length) := by
  intro xs
  induction xs with
  | nil => intro E _; rfl
  | cons o r ih =>
    intro E h
    have h0 : (stepE E o).1 = 0 := h 0 (by simp)
    unfold doS
    rw [if_pos h0, ih (stepE E o).2 fun i hi => by rw [← codeE_cons]; exact h (i + 1) (by simp; omega)]
    simp [stE]
theorem doS_bad : ∀ (xs : List OpE) (E : Et) (k : Nat), k < xs.length → codeE E xs k ≠ 0 → (∀ i < k, codeE E xs i = 0) → (doS E xs).1 = codeE E xs k := by
  intro xs
  induction xs with
  | nil => intro E k hk; exact absurd hk (by simp)
  | cons o r ih =>
    intro E k hk hc hz
    unfold doS
    cases k with
    | zero =>
      have h0 : (stepE E o).1 ≠ 0 := hc
      rw [if_neg h0]; rfl
    | succ k =>
      have h0 : (stepE E o).1 = 0 := hz 0 (Nat.succ_pos _)
      rw [if_pos h0, codeE_cons]
      exact ih _ k (by simpa using hk) (by rw [← codeE_cons]; exact hc) fun i hi => by rw [← codeE_cons]; exact hz (i + 1) (by omega)
theorem stE_inv {E : Et} {B : Nat} (h : Inv E B) (xs : List OpE) : ∀ i, Inv (stE E xs i) (B + i) := by
  intro i
  induction i with
  | zero => exact h
  | succ i ih =>
    by_cases hi : i < xs.length
    · rw [stE_succ hi]; exact stepE_inv ih _
    · have : stE E xs (i + 1) = stE E xs i := by
        unfold stE
        rw [List.take_of_length_le (by omega), List.take_of_length_le (by omega)]
      rw [this]; exact ih.mono (by omega)
theorem doS_inv {E : Et} {B : Nat} (h : Inv E B) (xs : List OpE) : Inv (doS E xs).2 (B + xs.length) := by
  induction xs generalizing E B with
  | nil => exact h
  | cons o r ih =>
    unfold doS
    split
    · have := ih (stepE_inv h o)
      exact this.mono (by simp; omega)
    · exact h.mono (by omega)
theorem DoE_inv {E : Et} {B : Nat} (h : Inv E B) (xs : List OpE) : Inv (DoE E xs).2 (B + xs.length) := by
  unfold DoE
  split
  · split
    · exact doS_inv h xs
    · exact h.mono (by omega)
  · exact h.mono (by omega)
theorem stepE_quota (E : Et) (o : OpE) : (stepE E o).2.quota = E.quota := by
  have hp : ∀ (E : Et) j n i, (putEx E j n i).quota = E.quota := fun E j n i => by unfold putEx; split <;> rfl
  have ht : ∀ (E : Et) j n, (takeEx E j n).quota = E.quota := fun E j n => by
    unfold takeEx
    split
    · rfl
    · split
      · rfl
      · split <;> rfl
  unfold stepE
  repeat' split
  all_goals first
    | rfl
    | simp only [hp, ht]
theorem doS_quota (xs : List OpE) : ∀ E, (doS E xs).2.quota = E.quota := by
  induction xs with
  | nil => intro E; rfl
  | cons o r ih =>
    intro E
    unfold doS
    split
    · rw [ih, stepE_quota]
    · rfl
theorem DoE_quota (E : Et) (xs : List OpE) : (DoE E xs).2.quota = E.quota := by
  unfold DoE
  split
  · split
    · exact doS_quota xs E
    · rfl
  · rfl
theorem Rep.over {T : Tr} {E : Et} (h : Rep T E) : overT T = overE E := by
  unfold overT overE
  rw [h.count, h.sum, h.quota]
set_option maxHeartbeats 1000000 in
theorem Do_any {w0 w : World} {S : Blocks} {L : List Rw} {t : Nat} {T : Tr} {E : Et} {B : Nat} (hO : Own ⟨w0, S⟩ w L) (H : Tree S (Pc L) t T) (hR : Rep T E) (I : Inv E B) (hmx : Mx w0) (a : Option Addr) (ops : List OpD) (xs : List OpE) (cap : Nat) (hlen : xs.length = ops.length) (hn : B + ops.length ≤ 200000)
    (hops : ∀ w' S' L', Own ⟨w0, S'⟩ w' L' → (∀ b x, (b, x) ∈ S → (b, x) ∈ S') → (∀ x ∈ L, x ∈ L') → ∀ i (h : i < ops.length), ∃ g off, a = some ⟨g, off, none⟩ ∧ w'.rangeAt g (off + i * 4) ops[i].cells) (hin : ∀ i (h : i < ops.length), OpIn w0 S L ops[i] (xs[i]'(by omega))) :
    Calls Tryz.prog 14 #[.pointer (some ⟨t, 0, none⟩), .slice a ops.length cap] w (DoL w0 S L t T w (fun T' => Rep T' (DoE E xs).2) (.int .i64 (DoE E xs).1)) := by
  have hmx' : ∀ S' L' w', Own ⟨w0, S'⟩ w' L' → Mx w' := fun S' L' w' h => hmx.later h.below
  refine do_gen hO H (hmx' _ _ _ hO) hmx' a ops cap (by omega) (codeE E xs) hops (P := fun i T' => Rep T' (stE E xs i)) (fun T' hs => hR.same hs) (fun c i hi S' L' T' w' hz k1 k2 k3 ks kh hP k5 => ?_) (fun k hk hc hz => ?_) (fun hz T' hP => ?_)
  · have hx : i < xs.length := by omega
    have hi' := hin i hi
    have hdata := hi'.data.mono (F' := c :: T'.foot) ks (fun b x hb _ hm => absurd (kh b hm) (by have := (hO.atLt hb).2; omega)) k2
    have hnn := hi'.n
    have I' := stE_inv I xs i
    have hst := do_total k1 k3 hP I' (by omega) k5 ops[i].kind ops[i].p ops[i].q hi'.p hi'.q (va := ops[i].a) (vc := ops[i].c) (zs := xs[i].zs) (by rw [← hnn]; exact hdata) (c0 := (stepE (stE E xs i) xs[i]).1) (E' := (stepE (stE E xs i) xs[i]).2) (by
      have e : (⟨ops[i].kind, ops[i].p.data.toList, ops[i].q.data.toList, xs[i].zs⟩ : OpE) = xs[i] := by rw [← hi'.kind, ← hi'.l, ← hi'.l2]
      rw [e])
    rw [← hnn] at hst
    rw [codeE_at hx]
    have hst2 := hst.mono fun e w2 hd2 => hd2.imp (R' := fun T2 => Rep T2 (stE E xs (i + 1))) fun T2 hT2 => by rw [stE_succ hx]; exact hT2
    exact hst2
  · have h1 := doS_bad xs E k (by omega) hc hz
    have h2 : (doS E xs).1 ≠ 0 := by rw [h1]; exact hc
    unfold DoE
    rw [if_neg h2]
    exact ⟨h1, hR⟩
  · have h1 := doS_ok xs E (by rw [hlen]; exact hz)
    have I' := stE_inv I xs xs.length
    have hs := I'.sum
    rw [← hlen] at hP
    have ho := hP.over
    rw [← hP.sum] at hs
    unfold DoE
    rw [h1]
    simp only [if_true]
    refine ⟨by omega, ?_, fun hr => ?_, fun hr => ?_⟩
    · rw [ho]
      by_cases h : overE (stE E xs xs.length) = 0
      · rw [if_pos h, h]
      · rw [if_neg h]
    · by_cases h : overE (stE E xs xs.length) = 0
      · rw [if_pos h]; exact hP
      · rw [if_neg h] at hr; exact absurd hr h
    · by_cases h : overE (stE E xs xs.length) = 0
      · rw [if_pos h] at hr; exact absurd rfl hr
      · rw [if_neg h]; exact hR
end Go.Proofs.YtdjoahhcmkedhaaGreatDoor
end

/- Several trees of the law's, each apart from the others. -/
section
namespace Go.Proofs.YtdjoahhcmkedhaaGreatDoor
open Go.RowKit
open Go.ChangeMaps (setBlock)
set_option linter.unusedVariables false
set_option linter.unusedSimpArgs false
set_option maxRecDepth 100000

/-- Trees apart from each other, as plain data, beside blocks of which each is known. -/
def Forest (w0 : World) (L : List Rw) (K : Blocks) (ts : List (Nat × Et)) (w : World) : Prop :=
  ∃ (S : Blocks) (L' : List Rw) (Ts : List (Nat × Tr × Et)), Own ⟨w0, S⟩ w L' ∧ (∀ x ∈ L, x ∈ L') ∧ (∀ b x, (b, x) ∈ K → (b, x) ∈ S ∧ ∀ y ∈ Ts, b ∉ y.1 :: y.2.1.foot) ∧ (∀ x ∈ Ts, Tree S (Pc L') x.1 x.2.1 ∧ Rep x.2.1 x.2.2) ∧
    Ts.Pairwise (fun x y => ∀ b ∈ x.1 :: x.2.1.foot, b ∉ y.1 :: y.2.1.foot) ∧ Ts.map (fun x => (x.1, x.2.2)) = ts
section
variable {w0 w w' : World} {L M : List Rw} {K : Blocks} {ts : List (Nat × Et)}
theorem Forest.below (h : Forest w0 L K ts w) : Below w0.heap.size w0 w := by
  obtain ⟨S, L', Ts, h1, _⟩ := h
  exact h1.below
theorem Forest.mx (h : Forest w0 L K ts w) (hm : Mx w0) : Mx w := hm.later h.below
theorem Forest.later (h : Forest w0 L K ts w) (hb : Below w.heap.size w w') : Forest w0 L K ts w' := by
  obtain ⟨S, L', Ts, h1, h2⟩ := h
  exact ⟨S, L', Ts, h1.later hb, h2⟩
theorem Forest.drew (h : Forest w0 L K ts w) : Forest w0 L K ts w.drew := h.later (Below.refl _ w).drew
theorem Forest.alloc (h : Forest w0 L K ts w) (o : Obj) : Forest w0 L K ts (w.alloc o) := h.later ((Below.refl _ w).alloc (Nat.le_refl _) o)
theorem Forest.less (h : Forest w0 L K ts w) {M : List Rw} {K2 : Blocks} (hM : ∀ x ∈ M, x ∈ L) (hK : ∀ x ∈ K2, x ∈ K) : Forest w0 M K2 ts w := by
  obtain ⟨S, L', Ts, h1, h2, h3, h4⟩ := h
  exact ⟨S, L', Ts, h1, fun x hx => h2 x (hM x hx), fun b x hx => h3 b x (hK _ hx), h4⟩
theorem Forest.newB (h : Forest w0 L K ts w) (o : Obj) : Forest w0 L ((w.heap.size, o) :: K) ts (w.alloc o) := by
  obtain ⟨S, L', Ts, h1, h2, h3, h4, h5, h6⟩ := h
  refine ⟨(w.heap.size, o) :: S, L', Ts, h1.newB o, h2, fun b x hx => ?_, fun x hx => ⟨(h4 x hx).1.mono (fun b y _ hy => List.mem_cons_of_mem _ hy) (fun _ _ h => h), (h4 x hx).2⟩, h5, h6⟩
  rcases List.mem_cons.1 hx with e | hx
  · injection e with e1 e2
    subst e1 e2
    refine ⟨List.mem_cons_self .., fun y hy hb => ?_⟩
    obtain ⟨x, hx⟩ := kept_in (h4 y hy).1.at_ _ hb
    exact absurd (h1.atLt hx).2 (Nat.lt_irrefl _)
  · exact ⟨List.mem_cons_of_mem _ (h3 b x hx).1, (h3 b x hx).2⟩
theorem Forest.one {S : Blocks} {L' : List Rw} {t : Nat} {T : Tr} {E : Et} (hO : Own ⟨w0, S⟩ w L') (hL : ∀ x ∈ L, x ∈ L') (H : Tree S (Pc L') t T) (hR : Rep T E) : Forest w0 L [] [(t, E)] w :=
  ⟨S, L', [(t, T, E)], hO, hL, (fun b x hx => by cases hx), (fun x hx => by rw [List.mem_singleton.1 hx]; exact ⟨H, hR⟩), List.pairwise_singleton _ _, rfl⟩
/-- One of the trees. -/
theorem Forest.get (h : Forest w0 L K ts w) {t : Nat} {E : Et} (ht : (t, E) ∈ ts) : ∃ S L' T, Own ⟨w0, S⟩ w L' ∧ (∀ x ∈ L, x ∈ L') ∧ Tree S (Pc L') t T ∧ Rep T E := by
  obtain ⟨S, L', Ts, h1, h2, h3, h4, h5, rfl⟩ := h
  obtain ⟨y, hy, e⟩ := List.mem_map.1 ht
  injection e with e1 e2
  subst e1 e2
  exact ⟨S, L', _, h1, h2, (h4 y hy).1, (h4 y hy).2⟩
theorem Forest.cellK (h : Forest w0 L K ts w) {b : Nat} {x : Obj} (hb : (b, x) ∈ K) : w.heap[b]? = some x := by
  obtain ⟨S, L', Ts, h1, h2, h3, _⟩ := h
  exact h1.at (h3 b x hb).1
/-- One of the trees turns. -/
theorem Forest.turned {A B : List (Nat × Tr × Et)} {t : Nat} {T T' : Tr} {E E' : Et} {S S' : Blocks} {L2 L' : List Rw} {K : Blocks} (h1 : Own ⟨w0, S⟩ w L') (h3 : ∀ b x, (b, x) ∈ K → (b, x) ∈ S ∧ ∀ y ∈ A ++ (t, T, E) :: B, b ∉ y.1 :: y.2.1.foot) (h4 : ∀ x ∈ A ++ (t, T, E) :: B, Tree S (Pc L') x.1 x.2.1 ∧ Rep x.2.1 x.2.2)
    (h5 : (A ++ (t, T, E) :: B).Pairwise (fun x y => ∀ b ∈ x.1 :: x.2.1.foot, b ∉ y.1 :: y.2.1.foot)) (g1 : Own ⟨w0, S'⟩ w' L2) (g2 : ∀ x ∈ L', x ∈ L2) (g3 : Tree S' (Pc L2) t T') (g4 : Frame S S' (t :: T.foot) (t :: T'.foot) w.heap.size) (g5 : Rep T' E') :
    (∀ b x, (b, x) ∈ K → (b, x) ∈ S' ∧ ∀ y ∈ A ++ (t, T', E') :: B, b ∉ y.1 :: y.2.1.foot) ∧ (∀ x ∈ A ++ (t, T', E') :: B, Tree S' (Pc L2) x.1 x.2.1 ∧ Rep x.2.1 x.2.2) ∧ (A ++ (t, T', E') :: B).Pairwise (fun x y => ∀ b ∈ x.1 :: x.2.1.foot, b ∉ y.1 :: y.2.1.foot) := by
  have hlow : ∀ y ∈ A ++ (t, T, E) :: B, ∀ b ∈ y.1 :: y.2.1.foot, b < w.heap.size := fun y hy b hb => by
    obtain ⟨x, hx⟩ := kept_in (h4 y hy).1.at_ _ hb
    exact (h1.atLt hx).2
  have hmid : (t, T, E) ∈ A ++ (t, T, E) :: B := List.mem_append_right _ (List.mem_cons_self ..)
  have hA : ∀ y ∈ A, y ∈ A ++ (t, T, E) :: B := fun y hy => List.mem_append_left _ hy
  have hB : ∀ y ∈ B, y ∈ A ++ (t, T, E) :: B := fun y hy => List.mem_append_right _ (List.mem_cons_of_mem _ hy)
  obtain ⟨p1, p2, p3⟩ := List.pairwise_append.1 h5
  obtain ⟨p4, p5⟩ := List.pairwise_cons.1 p2
  have offA : ∀ y ∈ A, ∀ b ∈ y.1 :: y.2.1.foot, b ∉ t :: T.foot := fun y hy => p3 y hy _ (List.mem_cons_self ..)
  have offB : ∀ y ∈ B, ∀ b ∈ y.1 :: y.2.1.foot, b ∉ t :: T.foot := fun y hy b hb hb2 => p4 y hy b hb2 hb
  have keep : ∀ y ∈ A ++ (t, T, E) :: B, (∀ b ∈ y.1 :: y.2.1.foot, b ∉ t :: T.foot) → Tree S' (Pc L2) y.1 y.2.1 ∧ Rep y.2.1 y.2.2 := fun y hy ho => ⟨(h4 y hy).1.mono (fun b x hb hx => g4.kept b x hx (ho b hb)) (fun v zs h => h.mono g2), (h4 y hy).2⟩
  have new : ∀ y ∈ A ++ (t, T, E) :: B, (∀ b ∈ y.1 :: y.2.1.foot, b ∉ t :: T.foot) → ∀ b ∈ y.1 :: y.2.1.foot, b ∉ t :: T'.foot := fun y hy ho b hb hb2 => by
    rcases g4.fresh b hb2 with h | h
    · exact ho b hb h
    · have := hlow y hy b hb; omega
  refine ⟨fun b x hx => ?_, fun x hx => ?_, ?_⟩
  · obtain ⟨k1, k2⟩ := h3 b x hx
    refine ⟨g4.kept b x k1 (k2 _ hmid), fun y hy => ?_⟩
    rcases List.mem_append.1 hy with hy | hy
    · exact k2 y (hA y hy)
    · rcases List.mem_cons.1 hy with rfl | hy
      · intro hb
        rcases g4.fresh b hb with h | h
        · exact k2 _ hmid h
        · have := (h1.atLt k1).2; omega
      · exact k2 y (hB y hy)
  · rcases List.mem_append.1 hx with hx | hx
    · exact keep x (hA x hx) (offA x hx)
    · rcases List.mem_cons.1 hx with rfl | hx
      · exact ⟨g3, g5⟩
      · exact keep x (hB x hx) (offB x hx)
  · refine List.pairwise_append.2 ⟨p1, List.pairwise_cons.2 ⟨fun y hy b hb hb2 => new y (hB y hy) (offB y hy) b hb2 hb, p5⟩, fun x hx y hy => ?_⟩
    rcases List.mem_cons.1 hy with rfl | hy
    · exact new x (hA x hx) (offA x hx)
    · exact p3 x hx y (List.mem_cons_of_mem _ hy)
theorem Forest.turn {A B : List (Nat × Et)} {t : Nat} {E E' : Et} {r : Value} {f : FuncId} {args : Array Value} (h : Forest w0 L K (A ++ (t, E) :: B) w)
    (hcall : ∀ S L' T, Own ⟨w0, S⟩ w L' → (∀ x ∈ L, x ∈ L') → (∀ b x, (b, x) ∈ K → (b, x) ∈ S) → Tree S (Pc L') t T → Rep T E → Calls Tryz.prog f args w (DoL w0 S L' t T w (fun T' => Rep T' E') r)) :
    Calls Tryz.prog f args w fun e w' => e = .returned r ∧ Forest w0 L K (A ++ (t, E') :: B) w' := by
  obtain ⟨S, L', Ts, h1, h2, h3, h4, h5, h6⟩ := h
  obtain ⟨A2, r2, rfl, e2, e3⟩ := List.map_eq_append_iff.1 h6
  cases r2 with
  | nil => simp at e3
  | cons y B2 =>
    obtain ⟨t2, T, E2⟩ := y
    simp only [List.map_cons, List.cons.injEq, Prod.mk.injEq] at e3
    obtain ⟨⟨rfl, rfl⟩, e3⟩ := e3
    have hy := h4 (t2, T, E2) (List.mem_append_right _ (List.mem_cons_self ..))
    refine (hcall S L' T h1 h2 (fun b x hx => (h3 b x hx).1) hy.1 hy.2).mono fun e w' hd => ?_
    obtain ⟨S', L2, T', g0, g1, g2, g3, g4, g5⟩ := hd
    obtain ⟨q1, q2, q3⟩ := Forest.turned h1 h3 h4 h5 g1 g2 g3 g4 g5
    exact ⟨g0, S', L2, A2 ++ (t2, T', E') :: B2, g1, fun x hx => g2 x (h2 x hx), q1, q2, q3, by simp [e2, e3]⟩
/-- An operation that was handed in. -/
structure OpOld (w0 : World) (o : OpD) (x : OpE) : Prop where
  kind : x.kind = o.kind
  l : x.l = o.p.data.toList
  l2 : x.l2 = o.q.data.toList
  p : o.p.size ≤ maxLen
  q : o.q.size ≤ maxLen
  n : o.n = x.zs.length
  data : By w0 (.slice o.a o.n o.c) x.zs
theorem OpOld.opIn {o : OpD} {x : OpE} (h : OpOld w0 o x) (S : Blocks) (L : List Rw) : OpIn w0 S L o x := ⟨h.kind, h.l, h.l2, h.p, h.q, h.n, .inr (.inl h.data)⟩
structure OpsA (w0 : World) (a : Option Addr) (ops : List OpD) (xs : List OpE) : Prop where
  len : xs.length = ops.length
  at_ : ∀ i (h : i < ops.length), ∃ g off, a = some ⟨g, off, none⟩ ∧ w0.rangeAt g (off + i * 4) ops[i].cells
  old : ∀ i (h : i < ops.length), OpOld w0 ops[i] (xs[i]'(by omega))
theorem range_old {W0 : Base} {L' : List Rw} (h : Own W0 w L') {g off : Nat} {cs : List Value} (hr : W0.world.rangeAt g off cs) : w.rangeAt g off cs := fun j v hj =>
  (h.below.cell (p := ⟨g, off + j, none⟩) (World.block_lt_of_cell? _ _ (hr j v hj))).trans (hr j v hj)
theorem forest_do {A B : List (Nat × Et)} {t : Nat} {E : Et} {bd : Nat} (h : Forest w0 L K (A ++ (t, E) :: B) w) (I : Inv E bd) (hm : Mx w0) {a : Option Addr} {ops : List OpD} {xs : List OpE} (ha : OpsA w0 a ops xs) (cap : Nat) (hn : bd + ops.length ≤ 200000) :
    Calls Tryz.prog 14 #[.pointer (some ⟨t, 0, none⟩), .slice a ops.length cap] w fun e w' => e = .returned (.int .i64 (DoE E xs).1) ∧ Forest w0 L K (A ++ (t, (DoE E xs).2) :: B) w' :=
  h.turn fun S L' T h1 h2 h3 h4 h5 => Do_any h1 h4 h5 I hm a ops xs cap ha.len hn (fun w' S' L'' k1 k2 k3 i hi => by
    obtain ⟨g, off, e, hr⟩ := ha.at_ i hi
    exact ⟨g, off, e, range_old k1 hr⟩) fun i hi => (ha.old i hi).opIn _ _
theorem forest_do1 {A B : List (Nat × Et)} {t : Nat} {E : Et} {bd : Nat} (h : Forest w0 L K (A ++ (t, E) :: B) w) (I : Inv E bd) (hm : Mx w0) {o : OpD} {x : OpE} (ho : OpOld w0 o x) (hn : bd + 1 ≤ 200000) :
    Calls Tryz.prog 14 #[.pointer (some ⟨t, 0, none⟩), .slice (some ⟨w.heap.size, 0, none⟩) 1 1] (w.alloc (.cells o.cells.toArray 38)) fun e w' => e = .returned (.int .i64 (DoE E [x]).1) ∧ Forest w0 L K (A ++ (t, (DoE E [x]).2) :: B) w' := by
  have hF := h.newB (.cells o.cells.toArray 38)
  refine (hF.turn (E' := (DoE E [x]).2) (r := .int .i64 (DoE E [x]).1) fun S L' T h1 h2 h3 h4 h5 => Do_any h1 h4 h5 I hm (some ⟨w.heap.size, 0, none⟩) [o] [x] 1 rfl hn (fun w' S' L'' k1 k2 k3 i hi => ⟨w.heap.size, 0, rfl, fun j v hv => ?_⟩) fun i hi => ?_).mono fun e w' hd => ⟨hd.1, hd.2.less (fun _ h => h) fun x hx => List.mem_cons_of_mem _ hx⟩
  · obtain rfl : i = 0 := by simpa using hi
    rw [k1.cellB (k2 _ _ (h3 _ _ (List.mem_cons_self ..)))]
    simpa using hv
  · obtain rfl : i = 0 := by simpa using hi
    exact ho.opIn _ _
theorem forest_clone {t : Nat} {E : Et} (h : Forest w0 L K ts w) (ht : (t, E) ∈ ts) :
    Calls Tryz.prog 23 #[.pointer (some ⟨t, 0, none⟩)] w fun e w' => ∃ c, e = .returned (.pointer (some ⟨c, 0, none⟩)) ∧ Forest w0 L K ((c, E) :: ts) w' := by
  obtain ⟨S, L', Ts, h1, h2, h3, h4, h5, rfl⟩ := h
  obtain ⟨y, hy, e⟩ := List.mem_map.1 ht
  obtain ⟨t2, T, E2⟩ := y
  injection e with e1 e2
  obtain rfl : t2 = t := e1
  obtain rfl : E2 = E := e2
  have hlow : ∀ y ∈ Ts, ∀ b ∈ y.1 :: y.2.1.foot, b < w.heap.size := fun y hy b hb => by
    obtain ⟨x, hx⟩ := kept_in (h4 y hy).1.at_ _ hb
    exact (h1.atLt hx).2
  refine (clone_t h1 (h4 _ hy).1).mono fun e w' hd => ?_
  obtain ⟨c, S', T', rfl, g1, g2, g3, g4, g5⟩ := hd
  refine ⟨c, rfl, S', L', (c, T', E2) :: Ts, g1, h2, fun b x hx => ⟨g3 b x (h3 b x hx).1, fun y hy => ?_⟩, fun x hx => ?_, List.pairwise_cons.2 ⟨fun y hy b hb hb2 => ?_, h5⟩, rfl⟩
  · rcases List.mem_cons.1 hy with rfl | hy
    · intro hb
      have h6 := g4 b hb
      have h7 := (h1.atLt (h3 b x hx).1).2
      omega
    · exact (h3 b x hx).2 y hy
  · rcases List.mem_cons.1 hx with rfl | hx
    · exact ⟨g2, (h4 _ hy).2.same g5⟩
    · exact ⟨(h4 x hx).1.mono (fun b z _ hz => g3 b z hz) (fun _ _ h => h), (h4 x hx).2⟩
  · have h6 := g4 b hb
    have h7 := hlow y hy b hb2
    omega
theorem forest_nodes {t : Nat} {E : Et} (h : Forest w0 L K ts w) (ht : (t, E) ∈ ts) :
    Calls Tryz.prog 24 #[.pointer (some ⟨t, 0, none⟩)] w fun e w' => e = .returned (.int .i64 (E.nodes.length : Int)) ∧ w = w' := by
  obtain ⟨S, L', T, h1, h2, h3, h4⟩ := h.get ht
  have := nodes_any (h3.at_.inWorld h1)
  rw [h4.count] at this
  exact this
theorem forest_used {t : Nat} {E : Et} {bd : Nat} (h : Forest w0 L K ts w) (ht : (t, E) ∈ ts) (I : Inv E bd) (hb : bd ≤ 200000) :
    Calls Tryz.prog 25 #[.pointer (some ⟨t, 0, none⟩)] w fun e w' => e = .returned (.int .i64 (sumE E.nodes : Nat)) ∧ Forest w0 L K ts w' := by
  obtain ⟨S, L', T, h1, h2, h3, h4⟩ := h.get ht
  have h5 := I.sum
  have := used_any (h3.at_.inWorld h1) (by rw [h4.sum]; omega)
  rw [h4.sum] at this
  exact this.mono fun e w' hd => ⟨hd.1, h.later hd.2⟩
def findX (E : Et) (l : List UInt8) : Option Int := if okP l then walkE E 1 (namesL l) else none
theorem forest_find {t : Nat} {E : Et} (h : Forest w0 L K ts w) (ht : (t, E) ∈ ts) (hm : Mx w0) (s : ByteArray) (hs : s.size ≤ maxLen) :
    Calls Tryz.prog 15 #[.pointer (some ⟨t, 0, none⟩), .string s] w fun e w' => e = .returned (.tuple #[.int .i64 ((findX E s.data.toList).getD 0), .bool (findX E s.data.toList).isSome]) ∧ Forest w0 L K ts w' := by
  obtain ⟨S, L', T, h1, h2, h3, h4⟩ := h.get ht
  have hf := find_any (h3.at_.inWorld h1) h3.good s hs (h.mx hm)
  have e : findT T s.data.toList = findX E s.data.toList := by
    unfold findT findX
    rw [h4.walk h3.good.keys]
  rw [e] at hf
  exact hf.mono fun e w' hr => ⟨hr.1, h.later hr.2⟩
end
end Go.Proofs.YtdjoahhcmkedhaaGreatDoor
end

/- Operations, numbers, and batches of both, as arguments. -/
section
namespace Go.Proofs.YtdjoahhcmkedhaaGreatDoor
open Go.RowKit Go.WideShapes Go.ChangeShapes
set_option linter.unusedVariables false
set_option linter.unusedSimpArgs false
set_option maxRecDepth 100000

theorem choose_list {β : Type} {P : Nat → β → Prop} : ∀ (n : Nat), (∀ i < n, ∃ y, P i y) → ∃ l : List β, l.length = n ∧ ∀ i (hi : i < l.length), P i l[i] := by
  intro n
  induction n with
  | zero => intro _; exact ⟨[], rfl, fun i hi => absurd hi (by simp)⟩
  | succ n ih =>
    intro h
    obtain ⟨l, h1, h2⟩ := ih fun i hi => h i (by omega)
    obtain ⟨y, hy⟩ := h n (Nat.lt_succ_self n)
    refine ⟨l ++ [y], by simp [h1], fun i hi => ?_⟩
    by_cases hin : i < l.length
    · rw [List.getElem_append_left hin]; exact h2 i hin
    · have : i = l.length := by simp at hi; omega
      subst this
      simp only [List.getElem_append_right (Nat.le_refl _), Nat.sub_self, List.getElem_cons_zero]
      rw [h1]; exact hy
theorem spot_zero {ad : Addr} {w : World} {v : Value} (h : w.cell? (ad.add 0) = some v) : ad.spot = none := by
  have := World.cell?_spot h
  unfold Addr.add at this
  rwa [if_pos rfl] at this
theorem spot_cells {w : World} {base n : Nat} {ad : Addr} {cs : List Value} (h : w.cells? base (ad.add (0 * n)) n = some cs) (hn : 0 < n) : ad.spot = none := by
  obtain ⟨_, h2, h3⟩ := World.cells?_some h
  have h0 := h3 0 hn
  rw [List.getElem?_eq_getElem (by omega), Nat.zero_mul] at h0
  have e : (ad.add 0) = ad := by unfold Addr.add; rw [if_pos rfl]
  rw [e] at h0
  exact spot_zero h0
theorem cells_at {w : World} {base k n : Nat} {ad : Addr} {cs : List Value} (h : w.cells? base (ad.add k) n = some cs) (hs : ad.spot = none) : ∃ b off, ad = ⟨b, off, none⟩ ∧ w.rangeAt b (off + k) cs ∧ cs.length = n := by
  obtain ⟨_, h2, h3⟩ := World.cells?_some h
  obtain ⟨b, off, spot⟩ := ad
  have hs : spot = none := hs
  subst hs
  refine ⟨b, off, rfl, fun j v hj => ?_, h2⟩
  have hjl : j < n := by
    rw [← h2]
    exact (List.getElem?_eq_some_iff.1 hj).1
  have := h3 j hjl
  rw [Addr.add_mid, Addr.add_mid] at this
  rw [this]; exact hj
theorem cellsOfOp : Tryz.prog.cellsOf 38 = 4 := by kernel_rfl
theorem cellsOfStr : Tryz.prog.cellsOf 9 = 1 := by kernel_rfl
theorem cellsOfInt : Tryz.prog.cellsOf 3 = 1 := by kernel_rfl
theorem cellsOfBy : Tryz.prog.cellsOf 36 = 1 := by kernel_rfl
theorem cellsOfBat : Tryz.prog.cellsOf 35 = 2 := by kernel_rfl
theorem cellsOfOps : Tryz.prog.cellsOf 32 = 1 := by kernel_rfl
theorem cellsOfInts : Tryz.prog.cellsOf 33 = 1 := by kernel_rfl
theorem open_by2 {H : Type} {enc : TypeId × Value → H} {w : World} {base fuel : Nat} {held : Bool} {v : Value} {x : DataW H × List MemPlace} (hf : DataW.trod enc Tryz.prog w base (fun _ => true) held fuel 36 [v] = some x) : ∃ zs, By w v zs := by
  rcases open_ints Tryz.underlying36 Tryz.underlying5 (by kernel_rfl) hf with ⟨hcs, _⟩ | ⟨xa, l, c, zs, hcs, _, hl, hm, hz, _, hcell, hwz⟩
  · injection hcs with hcs _
    exact ⟨[], by rw [hcs]; exact By.nil w⟩
  · injection hcs with hcs _
    have hz2 : zs.length = c := by simpa using hz
    exact ⟨zs.take l, by rw [hcs]; exact by_arg w _ _ _ zs hl hm hz2 hcell hwz⟩
theorem bulk_one {H : Type} (d : DataW H) : 1 ≤ Rows.uptoBulk d := by
  cases d with
  | lit l => cases l <;> simp [Rows.uptoBulk]
  | nil => simp [Rows.uptoBulk]
  | ptr d => simp [Rows.uptoBulk]
  | slice elems spare => simp [Rows.uptoBulk]
  | agg parts => simp [Rows.uptoBulk]
  | iface t d => simp [Rows.uptoBulk]
  | map entries => simp [Rows.uptoBulk]
  | held h => simp [Rows.uptoBulk]
theorem bulk_sum {H : Type} (f : Nat → Nat) (D : Nat → DataW H) : ∀ (n : Nat), (∀ i < n, f i ≤ Rows.uptoBulk (D i)) → ((List.range n).map f).sum ≤ Rows.uptoBulkAll ((List.range n).map D) := by
  have app : ∀ l r : List (DataW H), Rows.uptoBulkAll (l ++ r) = Rows.uptoBulkAll l + Rows.uptoBulkAll r := by
    intro l r
    induction l with
    | nil => simp [Rows.uptoBulkAll]
    | cons x l ih => simp only [List.cons_append, Rows.uptoBulkAll, ih]; omega
  intro n
  induction n with
  | zero => intro _; simp
  | succ n ih =>
    intro h
    have h1 := ih fun i hi => h i (by omega)
    have h2 := h n (Nat.lt_succ_self n)
    rw [List.range_succ, List.map_append, List.map_append, List.sum_append, app]
    simp only [List.map_cons, List.map_nil, List.sum_cons, List.sum_nil, Rows.uptoBulkAll]
    omega
theorem open_ops {H : Type} {enc : TypeId × Value → H} {w : World} {base fuel : Nat} {held : Bool} {v : Value} {x : DataW H × List MemPlace} (hf : DataW.trod enc Tryz.prog w base (fun _ => true) held fuel 32 [v] = some x) :
    ∃ a ops xs cap, v = .slice a ops.length cap ∧ OpsA w a ops xs ∧ ops.length + 1 ≤ Rows.uptoBulk x.1 ∧ ops.length ≤ maxLen := by
  rcases Go.Deep.open_slice Tryz.underlying32 hf with ⟨h1, hx⟩ | ⟨ad, len, cp, m, q, D, Pl, h1, hb, hl, hm, hmm, hxx, hx⟩
  · injection h1 with h1 _
    subst h1
    refine ⟨none, [], [], 0, rfl, ⟨rfl, fun i hi => absurd hi (by simp), fun i hi => absurd hi (by simp)⟩, ?_, Nat.zero_le _⟩
    exact bulk_one _
  · injection h1 with h1 _
    subst h1
    have hsp0 : 0 < len → ad.spot = none := fun h0 => by
      obtain ⟨cs, hc, _⟩ := hx 0 (by rw [hmm]; split <;> omega)
      rw [cellsOfOp] at hc
      exact spot_cells hc (by decide)
    have each : ∀ i < len, ∃ y : OpD × OpE, (∃ g off, (some ad) = some ⟨g, off, none⟩ ∧ w.rangeAt g (off + i * 4) y.1.cells) ∧ OpOld w y.1 y.2 := fun i hi => by
      obtain ⟨cs, hc, ht⟩ := hx i (by rw [hmm]; split <;> omega)
      rw [cellsOfOp] at hc
      obtain ⟨b, off, e, hr, hlen⟩ := cells_at hc (hsp0 (by omega))
      obtain ⟨c0, c1, c2, c3, rfl⟩ : ∃ c0 c1 c2 c3, cs = [c0, c1, c2, c3] := by
        match cs, hlen with
        | [c0, c1, c2, c3], _ => exact ⟨c0, c1, c2, c3, rfl⟩
      obtain ⟨y0, y1, y2, y3, n', _, hcl, t0, t1, t2, t3⟩ := Go.Joins.trod_struct4 Tryz.underlying38 ht
      simp only [cellsOfStr, cellsOfInt, cellsOfBy, List.drop_zero, List.drop_succ_cons, List.take_succ_cons, List.take_zero] at t0 t1 t2 t3
      obtain ⟨κ, e0, _, w0⟩ := DataW.trod_int Tryz.underlying3 t0
      obtain ⟨s1, e1, _, w1⟩ := DataW.trod_string Tryz.underlying9 t1
      obtain ⟨s2, e2, _, w2⟩ := DataW.trod_string Tryz.underlying9 t2
      obtain ⟨zs, hby⟩ := open_by2 t3
      injection e0 with e0 _; injection e1 with e1 _; injection e2 with e2 _
      subst e0 e1 e2
      obtain ⟨va, vc, hv⟩ : ∃ a c, c3 = .slice a zs.length c := by obtain ⟨_, _, a, c, h, _⟩ := hby; exact ⟨a, c, h⟩
      subst hv
      exact ⟨(⟨κ, s1, s2, va, zs.length, vc⟩, ⟨κ, s1.data.toList, s2.data.toList, zs⟩), ⟨b, off, by rw [e], hr⟩, rfl, rfl, rfl, w1, w2, rfl, hby⟩
    obtain ⟨l, hl1, hl2⟩ := choose_list len each
    have e1 : (l.map (·.1)).length = len := by simp [hl1]
    refine ⟨some ad, l.map (·.1), l.map (·.2), cp, by rw [e1], ⟨by simp, fun i hi => ?_, fun i hi => ?_⟩, ?_, by omega⟩
    · have hi' : i < l.length := by simpa using hi
      rw [List.getElem_map]
      exact (hl2 i hi').1
    · have hi' : i < l.length := by simpa using hi
      rw [List.getElem_map, List.getElem_map]
      exact (hl2 i hi').2
    · rw [hxx, e1]
      have h3 := bulk_sum (fun _ => 1) D len fun i _ => bulk_one _
      simp only [Rows.uptoBulk]
      have h4 : ∀ n : Nat, ((List.range n).map fun _ => 1).sum = n := fun n => by
        induction n with
        | zero => rfl
        | succ n ih => rw [List.range_succ, List.map_append, List.sum_append, ih]; rfl
      have h4 := h4 len
      omega
/-- Numbers that were handed in. -/
def Nums (w : World) (a : Option Addr) (l : List Int) : Prop := ∀ i (h : i < l.length), ∃ g off, a = some ⟨g, off, none⟩ ∧ w.cell? ⟨g, off + i, none⟩ = some (.int .i64 l[i])
theorem open_nums {H : Type} {enc : TypeId × Value → H} {w : World} {base fuel : Nat} {held : Bool} {v : Value} {x : DataW H × List MemPlace} (hf : DataW.trod enc Tryz.prog w base (fun _ => true) held fuel 33 [v] = some x) :
    ∃ a l cap, v = .slice a l.length cap ∧ Nums w a l ∧ l.length ≤ maxLen ∧ (∀ n ∈ l, (Lit.int .i64 n).wf = true) := by
  rcases open_ints Tryz.underlying33 Tryz.underlying3 (by kernel_rfl) hf with ⟨hcs, _⟩ | ⟨xa, len, c, zs, hcs, _, hl, hm, hz, _, hcell, hwz⟩
  · injection hcs with hcs _
    exact ⟨none, [], 0, hcs, fun i hi => absurd hi (by simp), Nat.zero_le _, fun n hn => by cases hn⟩
  · injection hcs with hcs _
    have hz2 : zs.length = c := by simpa using hz
    have e : (zs.take len).length = len := by rw [List.length_take]; omega
    refine ⟨some xa, zs.take len, c, by rw [e]; exact hcs, fun i hi => ?_, by omega, fun n hn => hwz n (List.mem_of_mem_take hn)⟩
    have hi' : i < zs.length := by rw [e] at hi; omega
    have h1 := hcell i hi'
    have hsp := spot_zero (hcell 0 (by omega))
    obtain ⟨b, off, spot⟩ := xa
    have hspot : spot = none := hsp
    subst hspot
    refine ⟨b, off, rfl, ?_⟩
    rw [Addr.add_mid] at h1
    rw [h1, List.getElem_take]
    simp [hi']
/-- Operations that are done at once, and which files are reaped then. -/
structure Bat where
  a : Option Addr
  c : Nat
  ops : List OpD
  xs : List OpE
  ra : Option Addr
  rc : Nat
  reap : List Int
abbrev Bat.cells (b : Bat) : List Value := [.slice b.a b.ops.length b.c, .slice b.ra b.reap.length b.rc]
structure BatOld (w : World) (b : Bat) : Prop where
  ops : OpsA w b.a b.ops b.xs
  reap : Nums w b.ra b.reap
  few : b.reap.length ≤ maxLen
  wf : ∀ n ∈ b.reap, (Lit.int .i64 n).wf = true
def Bats (w : World) (a : Option Addr) (bs : List Bat) : Prop := ∀ i (h : i < bs.length), (∃ g off, a = some ⟨g, off, none⟩ ∧ w.rangeAt g (off + i * 2) bs[i].cells) ∧ BatOld w bs[i]
def bulkB (bs : List Bat) : Nat := (bs.map fun b => 1 + b.ops.length).sum
theorem sum_range {β : Type} (f : β → Nat) (l : List β) : ((List.range l.length).map fun i => ((l[i]?).map f).getD 0).sum = (l.map f).sum := by
  induction l with
  | nil => rfl
  | cons x r ih =>
    rw [List.length_cons, List.range_succ_eq_map]
    simp only [List.map_cons, List.map_map, List.sum_cons, List.getElem?_cons_zero, Option.map_some, Option.getD_some]
    rw [← ih]
    congr 2
theorem open_bats {H : Type} {enc : TypeId × Value → H} {w : World} {base fuel : Nat} {held : Bool} {v : Value} {x : DataW H × List MemPlace} (hf : DataW.trod enc Tryz.prog w base (fun _ => true) held fuel 22 [v] = some x) :
    ∃ a bs cap, v = .slice a bs.length cap ∧ Bats w a bs ∧ bulkB bs + 1 ≤ Rows.uptoBulk x.1 ∧ bs.length ≤ maxLen := by
  rcases Go.Deep.open_slice Tryz.underlying22 hf with ⟨h1, hx⟩ | ⟨ad, len, cp, m, q, D, Pl, h1, hb, hl, hm, hmm, hxx, hx⟩
  · injection h1 with h1 _
    subst h1
    refine ⟨none, [], 0, rfl, fun i hi => absurd hi (by simp), ?_, Nat.zero_le _⟩
    exact bulk_one _
  · injection h1 with h1 _
    subst h1
    have hsp0 : 0 < len → ad.spot = none := fun h0 => by
      obtain ⟨cs, hc, _⟩ := hx 0 (by rw [hmm]; split <;> omega)
      rw [cellsOfBat] at hc
      exact spot_cells hc (by decide)
    have each : ∀ i < len, ∃ y : Bat, ((∃ g off, (some ad) = some ⟨g, off, none⟩ ∧ w.rangeAt g (off + i * 2) y.cells) ∧ BatOld w y) ∧ 1 + y.ops.length ≤ Rows.uptoBulk (D i) := fun i hi => by
      obtain ⟨cs, hc, ht⟩ := hx i (by rw [hmm]; split <;> omega)
      rw [cellsOfBat] at hc
      obtain ⟨b, off, e, hr, hlen⟩ := cells_at hc (hsp0 (by omega))
      obtain ⟨c0, c1, rfl⟩ : ∃ c0 c1, cs = [c0, c1] := by
        match cs, hlen with
        | [c0, c1], _ => exact ⟨c0, c1, rfl⟩
      obtain ⟨y0, y1, n', hD, hcl, t0, t1⟩ := trod_struct2 Tryz.underlying35 ht
      simp only [cellsOfOps, cellsOfInts, List.drop_zero, List.drop_succ_cons, List.take_succ_cons, List.take_zero] at t0 t1
      obtain ⟨a, ops, xs, c, rfl, k1, k2, k3⟩ := open_ops t0
      obtain ⟨ra, l, rc, rfl, k4, k5, k6⟩ := open_nums t1
      have hDi : D i = .agg [y0.1, y1.1] := by injection hD
      refine ⟨⟨a, c, ops, xs, ra, rc, l⟩, ⟨⟨b, off, by rw [e], hr⟩, k1, k4, k5, k6⟩, ?_⟩
      rw [hDi]
      simp only [Rows.uptoBulk, Rows.uptoBulkAll]
      show 1 + ops.length ≤ _
      omega
    obtain ⟨l, hl1, hl2⟩ := choose_list len each
    refine ⟨some ad, l, cp, by rw [hl1], fun i hi => (hl2 i hi).1, ?_, by omega⟩
    rw [hxx]
    have h3 := bulk_sum (fun i => ((l[i]?).map fun b => 1 + b.ops.length).getD 0) D len fun i hi => by
      rw [List.getElem?_eq_getElem (by omega)]
      exact (hl2 i (by omega)).2
    rw [← hl1, sum_range (fun b : Bat => 1 + b.ops.length) l, hl1] at h3
    unfold bulkB
    simp only [Rows.uptoBulk]
    omega
end Go.Proofs.YtdjoahhcmkedhaaGreatDoor
end

/- few. -/
section
namespace Go.Proofs.YtdjoahhcmkedhaaGreatDoor
open Go.RowKit
open Go.ChangeMaps (setBlock)
set_option linter.unusedVariables false
set_option linter.unusedSimpArgs false
set_option maxRecDepth 100000

def shortO (o : OpD) : Bool := decide (o.p.size ≤ 60) && decide (o.q.size ≤ 60) && decide (o.n ≤ 3600)
def goodBat (b : Bat) : Bool := decide (b.reap.length ≤ 20) && b.ops.all shortO
def fewB (bs : List Bat) : Bool := bs.all goodBat && decide (bulkB bs ≤ 120)
/-- Where batches lie, and their operations. -/
def Reads (w : World) (a : Option Addr) (bs : List Bat) : Prop := ∀ i (h : i < bs.length), (∃ g off, a = some ⟨g, off, none⟩ ∧ w.rangeAt g (off + i * 2) bs[i].cells) ∧ ∀ k (hk : k < bs[i].ops.length), ∃ g off, bs[i].a = some ⟨g, off, none⟩ ∧ w.rangeAt g (off + k * 4) bs[i].ops[k].cells
theorem range_later {w w' : World} (hb : Below w.heap.size w w') {g off : Nat} {cs : List Value} (hr : w.rangeAt g off cs) : w'.rangeAt g off cs := fun j v hj =>
  (hb.cell (p := ⟨g, off + j, none⟩) (World.block_lt_of_cell? _ _ (hr j v hj))).trans (hr j v hj)
theorem Reads.later {w w' : World} {a : Option Addr} {bs : List Bat} (h : Reads w a bs) (hb : Below w.heap.size w w') : Reads w' a bs := fun i hi => by
  obtain ⟨⟨g, off, e, hr⟩, h2⟩ := h i hi
  refine ⟨⟨g, off, e, range_later hb hr⟩, fun k hk => ?_⟩
  obtain ⟨g2, off2, e2, hr2⟩ := h2 k hk
  exact ⟨g2, off2, e2, range_later hb hr2⟩
theorem Bats.reads {w : World} {a : Option Addr} {bs : List Bat} (h : Bats w a bs) : Reads w a bs := fun i hi => ⟨(h i hi).1, (h i hi).2.ops.at_⟩
theorem info_bat (b : Bat) : (Tryz.prog.info? 35).map (·.size) = some b.cells.length := by
  have : (Tryz.prog.info? 35).map (·.size) = some 2 := by kernel_rfl
  exact this
theorem bat_one (b : Bat) : ∀ v ∈ b.cells, v.oneCell' = true := by
  intro v hv
  simp only [Bat.cells, List.mem_cons, List.not_mem_nil, or_false] at hv
  rcases hv with rfl | rfl <;> rfl
theorem take_all {α : Type} {f : α → Bool} {l : List α} {k : Nat} (hk : k < l.length) (h : ∀ i (hi : i < k) , f (l[i]'(by omega)) = true) (hf : f l[k] = true) : ∀ i (hi : i < k + 1) (h2 : i < l.length), f l[i] = true := fun i hi h2 => by
  rcases Nat.lt_succ_iff_lt_or_eq.1 hi with h3 | h3
  · exact h i h3
  · subst h3; exact hf
theorem bulk_take (bs : List Bat) (k : Nat) (hk : k < bs.length) : bulkB (bs.take (k + 1)) = bulkB (bs.take k) + (1 + bs[k].ops.length) := by
  unfold bulkB
  rw [List.take_succ_eq_append_getElem hk, List.map_append, List.sum_append]
  simp
theorem bulk_le (bs : List Bat) (k : Nat) : bulkB (bs.take k) ≤ bulkB bs := by
  unfold bulkB
  conv => rhs; rw [← List.take_append_drop k bs]
  rw [List.map_append, List.sum_append]
  omega
theorem all_not {α : Type} {f : α → Bool} {l : List α} {k : Nat} (hk : k < l.length) (h : f l[k] = false) : l.all f = false :=
  List.all_eq_false.2 ⟨l[k], List.getElem_mem hk, by rw [h]; decide⟩
set_option maxHeartbeats 4000000 in
theorem few_any {w : World} (a : Option Addr) (bs : List Bat) (cap : Nat) (hr : Reads w a bs) (hn : bs.length ≤ maxLen) (hbulk : bulkB bs ≤ 1000000000) :
    Calls Tryz.prog 8 #[.slice a bs.length cap] w fun e w' => e = .returned (.bool (fewB bs)) ∧ Below w.heap.size w w' := by
  obtain ⟨R, hR⟩ : ∃ R, fewB bs = R := ⟨_, rfl⟩
  have HR := Lib.hid hR
  rw [hR]
  clear hR
  have HRd := Lib.hid hr
  have HB := Lib.hid hbulk
  clear hr hbulk
  unfold maxLen at hn
  go_enter Tryz.func8, Tryz.ntmps8
  go_wp2_with fail
  go_loopw [3, 10] (fun nv iv wr => ∃ k : Nat, k ≤ bs.length ∧ iv = .int .i64 k ∧ nv = .int .i64 (bulkB (bs.take k) : Nat) ∧ Below w.heap.size w wr ∧ Hid (∀ i (hi : i < k) (h2 : i < bs.length), goodBat bs[i] = true)) (fun _ iv _ => bs.length - (intOf iv).toNat)
  case atStart => exact ⟨0, Nat.zero_le _, rfl, rfl, Below.refl _ _, fun i hi => absurd hi (Nat.not_lt_zero _)⟩
  case round =>
    obtain ⟨k, hk, rfl, rfl, hbw, HG⟩ := hrel
    by_cases hkl : k < bs.length
    · obtain ⟨b, hb, ⟨g, off, rfl, hr⟩, hops⟩ : ∃ b, b = bs[k] ∧ (∃ g off, a = some ⟨g, off, none⟩ ∧ wr.rangeAt g (off + k * 2) b.cells) ∧ ∀ k2 (hk2 : k2 < b.ops.length), ∃ g off, b.a = some ⟨g, off, none⟩ ∧ wr.rangeAt g (off + k2 * 4) b.ops[k2].cells := ⟨_, rfl, (HRd.out.later hbw) k hkl⟩
      have hsum := bulk_take bs k hkl
      have hle := bulk_le bs (k + 1)
      have hle2 := HB.out
      have hno : goodBat b = false → R = false := fun h => by
        rw [← HR.out]
        unfold fewB
        rw [all_not hkl (by rw [← hb]; exact h)]; rfl
      have hyes : goodBat b = true → ∀ i (hi : i < k + 1) (h2 : i < bs.length), goodBat bs[i] = true := fun h => take_all hkl (fun i hi => HG.out i hi (by omega)) (by rw [← hb]; exact h)
      rw [← hb] at hsum
      clear hb
      have Hno := Lib.hid hno
      have Hyes := Lib.hid hyes
      have Hr := Lib.hid hr
      have Hops := Lib.hid hops
      have Hone := Lib.hid (bat_one b)
      have HO := Lib.hid (Own.start wr)
      have hsz0 := hbw.size
      clear hr hops hno hyes HG
      have hb63 : (k : Int) < (bs.length : Int) := by exact_mod_cast hkl
      obtain ⟨n1, hn1⟩ : ∃ n1, bulkB (bs.take k) = n1 := ⟨_, rfl⟩
      obtain ⟨n2, hn2⟩ : ∃ n2, bulkB (bs.take (k + 1)) = n2 := ⟨_, rfl⟩
      rw [hn1, hn2] at hsum
      rw [hn2] at hle
      rw [hn1]
      have Hn2 := Lib.hid hn2
      have Hkl := Lib.hid hkl
      have hw1 : IntKind.i64.wrap (1 + (b.ops.length : Int)) = 1 + (b.ops.length : Int) := IntWalk.i64_in _ (by omega)
      have hw2 : IntKind.i64.wrap ((n1 : Int) + (1 + (b.ops.length : Int))) = (n2 : Int) := by rw [IntWalk.i64_in _ (by omega)]; omega
      have hob : b.ops.length ≤ 1000000000 := by omega
      clear hn1 hn2 hle hle2 hsum
      go_wp2_with (first
        | (refine wpList_load_mid rfl 35 (.tmp 12) rfl g (off + k * 2) rfl b.cells _ Hr.out Tryz.underlying35 rfl (info_bat _) ?_)
        | (refine wpList_store_new rfl 35 (.tmp 5) (.tmp 13) rfl HO.out b.cells wr.heap.size rfl rfl rfl rfl (info_bat _) Hone.out ?_))
      intro w3 hO3 hlt3
      have c0 : w3.cell? ⟨wr.heap.size, 0, none⟩ = some (.slice b.a b.ops.length b.c) := Own.cell (h := hO3) 0 (by decide)
      have c1 : w3.cell? ⟨wr.heap.size, 1, none⟩ = some (.slice b.ra b.reap.length b.rc) := Own.cell (h := hO3) 1 (by decide)
      have hbb : Below wr.heap.size wr w3 := hO3.below
      have Hb3 := Lib.hid ((((Own.start w).later hbw).later hbb).below)
      have Hops3 := Lib.hid (show ∀ k2 (hk2 : k2 < b.ops.length), ∃ g off, b.a = some ⟨g, off, none⟩ ∧ w3.rangeAt g (off + k2 * 4) b.ops[k2].cells from fun k2 hk2 => by
        obtain ⟨g2, off2, e2, hr2⟩ := Hops.out k2 hk2
        exact ⟨g2, off2, e2, range_later hbb hr2⟩)
      clear hO3 Hops Hr HO Hone hbb hbw
      by_cases hre : 20 < b.reap.length
      · have h20 : (20 : Int) < (b.reap.length : Int) := by exact_mod_cast hre
        have HX := Lib.hid (Hno.out (by unfold goodBat; rw [decide_eq_false (by omega)]; rfl))
        clear Hno Hyes hre Hops3
        go_wp2_with fail
        go_ret
        exact ⟨by rw [HX.out]; rfl, Hb3.out⟩
      · have h20 : ¬ (20 : Int) < (b.reap.length : Int) := by omega
        go_wp2_with fail
        go_loopw [27] (fun iv wq => ∃ m : Nat, m ≤ b.ops.length ∧ iv = .int .i64 m ∧ Below w3.heap.size w3 wq ∧ Hid (∀ i (hi : i < m) (h2 : i < b.ops.length), shortO b.ops[i] = true)) (fun iv _ => b.ops.length - (intOf iv).toNat)
        case atStart => exact ⟨0, Nat.zero_le _, rfl, Below.refl _ _, fun i hi => absurd hi (Nat.not_lt_zero _)⟩
        case round =>
          obtain ⟨m, hm, rfl, hbq, HM⟩ := hrel
          by_cases hml : m < b.ops.length
          · obtain ⟨o, ho, g2, off2, e2, hr2⟩ : ∃ o, o = b.ops[m] ∧ ∃ g off, b.a = some ⟨g, off, none⟩ ∧ wr.rangeAt g (off + m * 4) o.cells := by
              obtain ⟨g2, off2, e2, hr2⟩ := Hops3.out m hml
              exact ⟨_, rfl, g2, off2, e2, range_later hbq hr2⟩
            have hmno : shortO o = false → R = false := fun h => Hno.out (by
              unfold goodBat
              rw [all_not hml (by rw [← ho]; exact h), Bool.and_false])
            have hmyes : shortO o = true → ∀ i (hi : i < m + 1) (h2 : i < b.ops.length), shortO b.ops[i] = true := fun h => take_all hml (fun i hi => HM.out i hi (by omega)) (by rw [← ho]; exact h)
            have Hmno := Lib.hid hmno
            have Hmyes := Lib.hid hmyes
            have Hr2 := Lib.hid hr2
            have HO2 := Lib.hid (Own.start wr)
            have Hone := Lib.hid (op_one o)
            have hm63 : (m : Int) < (b.ops.length : Int) := by exact_mod_cast hml
            clear hmno hmyes hr2 ho HM
            rw [e2]
            go_wp2_with (first
              | (refine wpList_load_mid rfl 38 (.tmp 29) rfl g2 (off2 + m * 4) rfl o.cells _ Hr2.out Tryz.underlying38 rfl (info_op _) ?_)
              | (refine wpList_store_new rfl 38 (.tmp 7) (.tmp 30) rfl HO2.out o.cells wr.heap.size rfl rfl rfl rfl (info_op _) Hone.out ?_))
            intro w4 hO4 hlt4
            have d1 : w4.cell? ⟨wr.heap.size, 1, none⟩ = some (.string o.p) := Own.cell (h := hO4) 1 (by decide)
            have d2 : w4.cell? ⟨wr.heap.size, 2, none⟩ = some (.string o.q) := Own.cell (h := hO4) 2 (by decide)
            have d3 : w4.cell? ⟨wr.heap.size, 3, none⟩ = some (.slice o.a o.n o.c) := Own.cell (h := hO4) 3 (by decide)
            have Hb4 := Lib.hid ((((Own.start w3).later hbq).later hO4.below).below)
            have Hbw4 := Lib.hid ((((Own.start w).later Hb3.out).later Hb4.out).below)
            clear hO4 hbq Hr2 HO2 Hone e2
            by_cases hp : 60 < o.p.size
            · have hp1 : (60 : Int) < (o.p.size : Int) := by exact_mod_cast hp
              have HX := Lib.hid (Hmno.out (by unfold shortO; rw [decide_eq_false (show ¬ o.p.size ≤ 60 by omega)]; rfl))
              clear hp Hmno Hmyes
              go_wp2_with fail
              go_ret
              exact ⟨by rw [HX.out]; rfl, Hbw4.out⟩
            have hp1 : ¬ (60 : Int) < (o.p.size : Int) := by omega
            by_cases hq : 60 < o.q.size
            · have hq1 : (60 : Int) < (o.q.size : Int) := by exact_mod_cast hq
              have HX := Lib.hid (Hmno.out (by unfold shortO; rw [decide_eq_false (show ¬ o.q.size ≤ 60 by omega), Bool.and_false]; rfl))
              clear hp hq Hmno Hmyes
              go_wp2_with fail
              go_ret
              exact ⟨by rw [HX.out]; rfl, Hbw4.out⟩
            have hq1 : ¬ (60 : Int) < (o.q.size : Int) := by omega
            by_cases hz : 3600 < o.n
            · have hz1 : (3600 : Int) < (o.n : Int) := by exact_mod_cast hz
              have HX := Lib.hid (Hmno.out (by unfold shortO; rw [decide_eq_false (show ¬ o.n ≤ 3600 by omega), Bool.and_false]))
              clear hp hq hz Hmno Hmyes
              go_wp2_with fail
              go_ret
              exact ⟨by rw [HX.out]; rfl, Hbw4.out⟩
            have hz1 : ¬ (3600 : Int) < (o.n : Int) := by omega
            have HM2 := Lib.hid (Hmyes.out (by unfold shortO; rw [decide_eq_true (show o.p.size ≤ 60 by omega), decide_eq_true (show o.q.size ≤ 60 by omega), decide_eq_true (show o.n ≤ 3600 by omega)]; rfl))
            clear hp hq hz Hmno Hmyes
            go_wp2_with fail
            go_roundw
            case rel => exact ⟨m + 1, by omega, by go_num, Hb4.out, HM2⟩
            case measure => simp [intOf]; omega
          · obtain rfl : m = b.ops.length := by omega
            have hm63 : ¬ ((b.ops.length : Int) < (b.ops.length : Int)) := Int.lt_irrefl _
            have HG2 := Lib.hid (Hyes.out (by
              unfold goodBat
              rw [decide_eq_true (by omega), Bool.true_and]
              exact List.all_eq_true.2 fun x hx => by
                obtain ⟨i, hi, rfl⟩ := List.getElem_of_mem hx
                exact HM.out i hi hi))
            have Hbw4 := Lib.hid ((((Own.start w).later Hb3.out).later hbq).below)
            clear hre HM Hyes Hno hbq
            go_wp2_with fail
            go_roundw
            case rel => exact ⟨k + 1, by have := Hkl.out; omega, by go_num, by rw [Hn2.out], Hbw4.out, HG2.out⟩
            case measure => have := Hkl.out; simp [intOf]; omega
    · have hke : k = bs.length := by omega
      subst hke
      have hb63 : ¬ ((bs.length : Int) < (bs.length : Int)) := Int.lt_irrefl _
      have hfin : R = decide ((bulkB (bs.take bs.length) : Int) ≤ 120) := by
        rw [← HR.out, List.take_length]
        unfold fewB
        have : bs.all goodBat = true := List.all_eq_true.2 fun x hx => by
          obtain ⟨i, hi, rfl⟩ := List.getElem_of_mem hx
          exact HG.out i hi hi
        rw [this, Bool.true_and]
        exact decide_eq_decide.2 (by omega)
      have HF := Lib.hid hfin
      clear hfin HG HRd HB HR
      generalize (bulkB (bs.take bs.length) : Nat) = n1 at *
      go_wp2_with fail
      go_ret
      exact ⟨by rw [HF.out]; rfl, hbw⟩
end Go.Proofs.YtdjoahhcmkedhaaGreatDoor
end

/- The document's example, on plain data. -/
section
namespace Go.Proofs.YtdjoahhcmkedhaaGreatDoor
open Go.RowKit
set_option linter.unusedVariables false
set_option linter.unusedSimpArgs false
set_option maxRecDepth 100000

def E0 (q : Int) : Et := ⟨q, 2, [(1, ⟨true, [], [], 0⟩)]⟩
theorem new_rep (b : Nat) (q : Int) : Rep (newT b q) (E0 (max q 0)) := ⟨rfl, rfl, List.Perm.refl _⟩
def one : List Int := [111, 110, 101]
def two : List Int := [116, 119, 111]
/-- /a, /a/f, /g, /h -/
def pA : List UInt8 := [47, 97]
def pAF : List UInt8 := [47, 97, 47, 102]
def pG : List UInt8 := [47, 103]
def pH : List UInt8 := [47, 104]
def pB : List UInt8 := [47, 98]
def EA1 : Et := ⟨10, 4, [(1, ⟨true, [(toB [97], 2), (toB [103], 3)], [], 0⟩), (2, ⟨true, [(toB [102], 3)], [], 0⟩), (3, ⟨false, [], one, 2⟩)]⟩
theorem alive1 : doAllE (E0 10) [⟨0, pA, [], []⟩, ⟨2, pAF, [], one⟩, ⟨4, pAF, pG, []⟩] = some EA1 := by rfl
def EA2 : Et := ⟨10, 5, [(1, ⟨true, [(toB [97], 2), (toB [103], 3)], [], 0⟩), (2, ⟨true, [(toB [102], 4)], [], 0⟩), (3, ⟨false, [], one, 1⟩), (4, ⟨false, [], two, 1⟩)]⟩
theorem alive2 : doAllE EA1 [⟨2, pH, [], two⟩, ⟨5, pH, pAF, []⟩] = some EA2 := by rfl
def EA3 : Et := ⟨10, 5, [(1, ⟨true, [(toB [97], 2)], [], 0⟩), (2, ⟨true, [(toB [102], 4)], [], 0⟩), (3, ⟨false, [], one, 0⟩), (4, ⟨false, [], two, 1⟩)]⟩
theorem alive3 : doAllE EA2 [⟨6, pG, [], []⟩] = some EA3 := by rfl
end Go.Proofs.YtdjoahhcmkedhaaGreatDoor
end

/- Numbers in order. -/
section
namespace Go.Proofs.YtdjoahhcmkedhaaGreatDoor
open Go.RowKit
open Go.ChangeMaps (setBlock)
open Go.Sort
set_option linter.unusedVariables false
set_option linter.unusedSimpArgs false
set_option maxRecDepth 100000

def rowI (v : Value) (zs : List Int) : Rw := ⟨3, 1, v, zs.length, zs.map (Value.int .i64)⟩
theorem sort_row {W0 : Base} {w : World} {L : List Rw} {v : Value} {zs : List Int} (h : Own W0 w (rowI v zs :: L)) (hl : zs.length < 4611686018427387904) :
    Calls Tryz.prog 60 #[v] w fun e w' => e = .returned (.tuple #[]) ∧ Own W0 w' (rowI v (zs.mergeSort fun x y => decide (x ≤ y)) :: L) := by
  have h' : Own W0 w (⟨3, 1, v, zs.length, zs.map (Value.int .i64)⟩ :: L) := h
  have hown : w.ownsRow W0.world.heap.size 3 1 v zs.length (zs.map (Value.int .i64)) := h.head
  have hsl : (zs.mergeSort fun x y => decide (x ≤ y)).length = zs.length := List.length_mergeSort _
  rcases hown.2 with ⟨hv, hn⟩ | ⟨g, cap, cur, hv, hg, hb, hn, hcap, hsz, htk⟩
  · have hz : zs = [] := List.eq_nil_of_length_eq_zero hn
    subst hz
    rw [hv]
    refine (Tryz.slices_Sort_int_none none 0 w).mono ?_
    rintro e w' ⟨rfl, rfl⟩
    refine ⟨rfl, ?_⟩
    rw [hv] at h
    simpa using h
  · have hv2 : v = .slice (some ⟨g, 0, none⟩) zs.length cap := hv
    have hH : Holds (Value.int .i64) w g 0 zs.toArray := holds_of_blockI hb (by rw [Nat.mul_one] at htk; exact htk)
    have hlt : g < w.heap.size := lt_of_heap hb
    rw [hv2]
    refine (Tryz.slices_Sort_int g 0 cap zs w hH hlt hl).mono ?_
    rintro e w' ⟨rfl, n, os, rfl⟩
    refine ⟨rfl, ?_⟩
    have hrow := ownsRow_sortedI (n := n) (os := os) hsl hg hb hn hcap hsz
    rw [hv2] at h'
    have hres := Own.grown (h := h') (by rw [← hsl] at hrow; exact hrow) (grownBy_sortedI _) (.inl (by rw [hsl]))
    unfold rowI
    rw [hsl]
    rw [hsl] at hres
    exact hres
end Go.Proofs.YtdjoahhcmkedhaaGreatDoor
end
