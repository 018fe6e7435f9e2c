/- Operations on the plain state. -/
import Derived.Test.YtamkfadammlhbaaGreatDoorTree22
namespace Go.Proofs.YtamkfadammlhbaaGreatDoor
open Go.RowKit
open Go.ChangeMaps (setBlock)
set_option linter.unusedVariables false
set_option linter.unusedSimpArgs false
set_option maxRecDepth 100000

def mkdirE (E : Et) (j : Int) (nd : ENd) (name : ByteArray) : Et := { E with next := E.next + 1, nodes := put (put E.nodes E.next ⟨true, [], [], 0⟩) j { nd with kids := put nd.kids name E.next } }
def createE (E : Et) (j : Int) (nd : ENd) (name : ByteArray) (zs : List Int) : Et := { E with next := E.next + 1, nodes := put (put (put E.nodes E.next ⟨false, [], zs, 0⟩) j { nd with kids := put nd.kids name E.next }) E.next ⟨false, [], zs, 1⟩ }
def putEx (E : Et) (j : Int) (name : ByteArray) (i : Int) : Et := match look E.nodes j, look E.nodes i with
  | some nd, some f => { E with nodes := put (put E.nodes j { nd with kids := put nd.kids name i }) i { f with places := f.places + 1 } }
  | _, _ => E
def takeEx (E : Et) (j : Int) (name : ByteArray) : Et := match look E.nodes j with
  | none => E
  | some nd => match look nd.kids name with
    | none => E
    | some i => match look E.nodes i with
      | none => E
      | some f => { E with nodes := put (put E.nodes i { f with places := f.places - 1 }) j { nd with kids := del nd.kids name } }
theorem Rep.mkdir {T : Tr} {E : Et} (h : Rep T E) (hd : (T.nodes.map (·.1)).Nodup) {j : Int} {nd n : Nd} (name : ByteArray) (hn : n.er = ⟨true, [], [], 0⟩) : Rep (mkdirT T j nd name n) (mkdirE E j nd.er name) := by
  have h1 : Rep { T with next := T.next + 1 } { E with next := E.next + 1 } := ⟨h.quota, by show T.next + 1 = E.next + 1; rw [h.next], h.nodes⟩
  have h2 := (h1.setN hd T.next n).setN (setN_nodup (T := { T with next := T.next + 1 }) hd T.next n) j { nd with kids := put nd.kids name T.next }
  rw [hn, show ({ nd with kids := put nd.kids name T.next } : Nd).er = { nd.er with kids := put nd.er.kids name T.next } from rfl, h.next] at h2
  have e : mkdirT T j nd name n = (({ T with next := T.next + 1 } : Tr).setN T.next n).setN j { nd with kids := put nd.kids name T.next } := rfl
  rw [e, h.next]
  exact h2
theorem Rep.create {T : Tr} {E : Et} (h : Rep T E) (hd : (T.nodes.map (·.1)).Nodup) {j : Int} {nd n : Nd} (name : ByteArray) {zs : List Int} (hn : n.er = ⟨false, [], zs, 0⟩) : Rep (createT T j nd name n) (createE E j nd.er name zs) := by
  have h1 : Rep { T with next := T.next + 1 } { E with next := E.next + 1 } := ⟨h.quota, by show T.next + 1 = E.next + 1; rw [h.next], h.nodes⟩
  have d1 := setN_nodup (T := { T with next := T.next + 1 }) hd T.next n
  have h2 := ((h1.setN hd T.next n).setN d1 j { nd with kids := put nd.kids name T.next }).setN (setN_nodup d1 j { nd with kids := put nd.kids name T.next }) T.next { n with places := n.places + 1 }
  have hp : n.places = 0 := congrArg ENd.places hn
  have hd2 : n.data = zs := congrArg ENd.data hn
  have hk2 : n.kids = [] := congrArg ENd.kids hn
  have hb2 : n.k.isSome = false := congrArg ENd.dir hn
  rw [show ({ n with places := n.places + 1 } : Nd).er = ⟨false, [], zs, 1⟩ by unfold Nd.er; simp only [hp, hd2, hk2, hb2]; rfl, hn, show ({ nd with kids := put nd.kids name T.next } : Nd).er = { nd.er with kids := put nd.er.kids name T.next } from rfl, h.next] at h2
  have e : createT T j nd name n = ((({ T with next := T.next + 1 } : Tr).setN T.next n).setN j { nd with kids := put nd.kids name T.next }).setN T.next { n with places := n.places + 1 } := rfl
  rw [e, h.next]
  exact h2
theorem Rep.put {T : Tr} {E : Et} (h : Rep T E) (hd : (T.nodes.map (·.1)).Nodup) (j : Int) (name : ByteArray) (i : Int) : Rep (putTx T j name i) (putEx E j name i) := by
  unfold putTx putEx
  rw [← h.look hd j, ← h.look hd i]
  cases Go.Proofs.YtamkfadammlhbaaGreatDoor.look T.nodes j with
  | none => exact h
  | some nd =>
    cases Go.Proofs.YtamkfadammlhbaaGreatDoor.look T.nodes i with
    | none => exact h
    | some f => exact (h.setN hd j { nd with kids := Go.Proofs.YtamkfadammlhbaaGreatDoor.put nd.kids name i }).setN (setN_nodup hd j { nd with kids := Go.Proofs.YtamkfadammlhbaaGreatDoor.put nd.kids name i }) i { f with places := f.places + 1 }
theorem Rep.take {T : Tr} {E : Et} (h : Rep T E) (hd : (T.nodes.map (·.1)).Nodup) (j : Int) (name : ByteArray) : Rep (takeTx T j name) (takeEx E j name) := by
  unfold takeTx takeEx
  rw [← h.look hd j]
  cases h1 : Go.Proofs.YtamkfadammlhbaaGreatDoor.look T.nodes j with
  | none => exact h
  | some nd =>
    show Rep (match Go.Proofs.YtamkfadammlhbaaGreatDoor.look nd.kids name with | none => T | some i => _) (match Go.Proofs.YtamkfadammlhbaaGreatDoor.look nd.kids name with | none => E | some i => _)
    cases Go.Proofs.YtamkfadammlhbaaGreatDoor.look nd.kids name with
    | none => exact h
    | some i =>
      simp only
      rw [← h.look hd i]
      cases h2 : Go.Proofs.YtamkfadammlhbaaGreatDoor.look T.nodes i with
      | none => exact h
      | some f => exact (h.setN hd i { f with places := f.places - 1 }).setN (setN_nodup hd i { f with places := f.places - 1 }) j { nd with kids := del nd.kids name }
theorem takeTx_nodup {T : Tr} (hd : (T.nodes.map (·.1)).Nodup) (j : Int) (name : ByteArray) : ((takeTx T j name).nodes.map (·.1)).Nodup := by
  unfold takeTx
  split
  · exact hd
  · split
    · exact hd
    · split
      · exact hd
      · exact setN_nodup (setN_nodup hd _ _) _ _
theorem Rep.write {T : Tr} {E : Et} (h : Rep T E) (hd : (T.nodes.map (·.1)).Nodup) (i : Int) {f2 : Nd} {ef : ENd} {zs : List Int} (hf : f2.er = { ef with data := zs }) : Rep (T.setN i f2) { E with nodes := Go.Proofs.YtamkfadammlhbaaGreatDoor.put E.nodes i { ef with data := zs } } := by
  have := h.setN hd i f2
  rwa [hf] at this
structure OpE where
  kind : Int
  l : List UInt8
  l2 : List UInt8
  zs : List Int
/-- An operation that goes well, and what it makes of a tree. -/
def doE (E : Et) (o : OpE) : Option Et := if o.zs.length ≤ 3500 then (match placeE E o.l with
  | (0, some (j, nd, z)) => match look nd.kids (toB z) with
    | none => if o.kind = 0 then some (mkdirE E j nd (toB z)) else if o.kind = 2 then some (createE E j nd (toB z) o.zs) else none
    | some i => match look E.nodes i with
      | none => none
      | some f => if f.dir = false ∧ 1 ≤ f.places ∧ f.places ≤ 1000000000 then
          (if o.kind = 3 then some { E with nodes := put E.nodes i { f with data := o.zs } }
          else if o.kind = 6 then some (takeEx E j (toB z))
          else match placeE E o.l2 with
            | (0, some (jb, ndb, zb)) =>
              if o.kind = 4 then (match look ndb.kids (toB zb) with
                | none => some (putEx E jb (toB zb) i)
                | some _ => none)
              else if o.kind = 5 then (match look ndb.kids (toB zb) with
                | none => some (putEx (takeEx E j (toB z)) jb (toB zb) i)
                | some old => match look E.nodes old with
                  | none => none
                  | some fo => if fo.dir = false ∧ 0 ≤ fo.places ∧ fo.places ≤ 1000000000 then
                      (if old = i then some E else some (putEx (takeEx (takeEx E jb (toB zb)) j (toB z)) jb (toB zb) i)) else none)
              else none
            | _ => none) else none
  | _ => none) else none
theorem DoL.imp {w0 w w' : World} {S : Blocks} {L : List Rw} {t : Nat} {T : Tr} {R R' : Tr → Prop} {r : Value} {e : Ending} (h : DoL w0 S L t T w R r e w') (hR : ∀ T', R T' → R' T') : DoL w0 S L t T w R' r e w' := by
  obtain ⟨S', L', T', h1, h2, h3, h4, h5, h6⟩ := h
  exact ⟨S', L', T', h1, h2, h3, h4, h5, hR _ h6⟩
theorem Rep.file {T : Tr} {E : Et} (h : Rep T E) (hd : (T.nodes.map (·.1)).Nodup) {i : Int} {ef : ENd} (he : Go.Proofs.YtamkfadammlhbaaGreatDoor.look E.nodes i = some ef) (h1 : ef.dir = false) (h2 : 0 ≤ ef.places) (h3 : ef.places ≤ 1000000000) : ∃ f, Fl T i f ∧ f.er = ef := by
  have hl := h.look hd i
  rw [he] at hl
  cases hf : Go.Proofs.YtamkfadammlhbaaGreatDoor.look T.nodes i with
  | none => rw [hf] at hl; cases hl
  | some f =>
    rw [hf] at hl
    have e : f.er = ef := by injection hl
    refine ⟨f, ⟨hf, ?_, ?_, ?_⟩, e⟩
    · have : f.k.isSome = false := (congrArg ENd.dir e).trans h1
      cases hk : f.k with
      | none => rfl
      | some k => rw [hk] at this; cases this
    · have := congrArg ENd.places e
      show 0 ≤ f.places
      rw [show f.places = ef.places from this]; exact h2
    · have := congrArg ENd.places e
      show f.places ≤ _
      rw [show f.places = ef.places from this]; exact h3
end Go.Proofs.YtamkfadammlhbaaGreatDoor
