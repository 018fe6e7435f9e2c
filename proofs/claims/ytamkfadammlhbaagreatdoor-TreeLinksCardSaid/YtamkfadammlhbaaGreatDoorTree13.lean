/- rename. -/
import Derived.Test.YtamkfadammlhbaaGreatDoorTree12
namespace Go.Proofs.YtamkfadammlhbaaGreatDoor
open Go.RowKit
open Go.ChangeMaps (setBlock)
set_option linter.unusedVariables false
set_option linter.unusedSimpArgs false
set_option maxRecDepth 100000

theorem look_del_ne {α β : Type} [DecidableEq α] {m : List (α × β)} {a b : α} (h : b ≠ a) : look (del m a) b = look m b := by
  induction m with
  | nil => rfl
  | cons p r ih =>
    unfold del
    split
    · rename_i e
      have : ¬ p.1 = b := fun e2 => h (e2.symm.trans e)
      rw [look, if_neg this]
    · rw [look, look, ih]
def putTx (T : Tr) (j : Int) (name : ByteArray) (i : Int) : Tr := match look T.nodes j, look T.nodes i with
  | some nd, some f => putT T j nd name i f
  | _, _ => T
def takeTx (T : Tr) (j : Int) (name : ByteArray) : Tr := match look T.nodes j with
  | none => T
  | some nd => match look nd.kids name with
    | none => T
    | some i => match look T.nodes i with
      | none => T
      | some f => takeT T j nd name i f
theorem putTx_of {T : Tr} {j : Int} {nd : Nd} (name : ByteArray) {i : Int} {f : Nd} (hj : look T.nodes j = some nd) (hi : look T.nodes i = some f) : putTx T j name i = putT T j nd name i f := by unfold putTx; rw [hj, hi]
theorem takeTx_of {T : Tr} {j : Int} {nd : Nd} {name : ByteArray} {i : Int} {f : Nd} (hj : look T.nodes j = some nd) (hs : look nd.kids name = some i) (hi : look T.nodes i = some f) : takeTx T j name = takeT T j nd name i f := by
  unfold takeTx; simp only [hj, hs, hi]
theorem look_takeT {T : Tr} {j : Int} {nd : Nd} {name : ByteArray} {i : Int} {f : Nd} (x : Int) : look (takeT T j nd name i f).nodes x = if x = j then some { nd with kids := del nd.kids name } else if x = i then some { f with places := f.places - 1 } else look T.nodes x := by
  unfold takeT Tr.setN
  rw [look_put, look_put]
/-- A directory, a name in it, a file that stands there. -/
structure At (T : Tr) (j : Int) (nd : Nd) (k : Nat) : Prop where
  there : look T.nodes j = some nd
  dir : nd.k = some k
structure Fl (T : Tr) (i : Int) (f : Nd) : Prop where
  there : look T.nodes i = some f
  file : f.k = none
  low : 0 ≤ f.places
  high : f.places ≤ 1000000000
theorem At.ne {T : Tr} {j i : Int} {nd f : Nd} {k : Nat} (h : At T j nd k) (g : Fl T i f) : j ≠ i := fun e => by
  have h1 := h.there
  rw [e, g.there] at h1
  injection h1 with h1
  have := h.dir
  rw [← h1, g.file] at this; cases this
theorem At.behind {T : Tr} {j i : Int} {nd f : Nd} {k : Nat} {name : ByteArray} {j' : Int} {nd' : Nd} {k' : Nat} (h : At T j nd k) (g : Fl T i f) (h' : At T j' nd' k') : ∃ nd2, At (takeT T j nd name i f) j' nd2 k' ∧ nd2.b = nd'.b ∧ (j' ≠ j → nd2 = nd') ∧ (j' = j → nd2.kids = del nd'.kids name) := by
  by_cases e : j' = j
  · have e2 : nd' = nd := by have h1 := h'.there; rw [e, h.there] at h1; injection h1 with h1; exact h1.symm
    refine ⟨{ nd with kids := del nd.kids name }, ⟨by rw [look_takeT, if_pos e], by rw [← e2]; exact h'.dir⟩, by rw [e2], fun h => absurd e h, fun _ => by rw [e2]⟩
  · exact ⟨nd', ⟨by rw [look_takeT, if_neg e, if_neg (h'.ne g)]; exact h'.there, h'.dir⟩, rfl, fun _ => rfl, fun h => absurd h e⟩
theorem Fl.behind {T : Tr} {j i : Int} {nd f : Nd} {k : Nat} {name : ByteArray} {i' : Int} {f' : Nd} (h : At T j nd k) (g : Fl T i f) (g' : Fl T i' f') (hp : 1 ≤ f.places ∨ i' ≠ i) : ∃ f2, Fl (takeT T j nd name i f) i' f2 := by
  by_cases e : i' = i
  · have hp1 : 1 ≤ f.places := hp.resolve_right fun h => h e
    exact ⟨{ f with places := f.places - 1 }, ⟨by rw [look_takeT, if_neg (e ▸ (h.ne g).symm), if_pos e], g.file, by show 0 ≤ f.places - 1; omega, by show f.places - 1 ≤ _; have := g.high; omega⟩⟩
  · exact ⟨f', ⟨by rw [look_takeT, if_neg (h.ne g').symm, if_neg e]; exact g'.there, g'.file, g'.low, g'.high⟩⟩
/-- take, of a tree beside other blocks. -/
theorem take_on {w0 w : World} {S : Blocks} {L : List Rw} {t : Nat} {T : Tr} (hO : Own ⟨w0, S⟩ w L) (H : Tree S (Pc L) t T) {j : Int} {nd : Nd} {k : Nat} (h : At T j nd k) {name : ByteArray} {i : Int} {f : Nd} (hs : look nd.kids name = some i) (g : Fl T i f) :
    Calls Tryz.prog 89 #[.pointer (some ⟨t, 0, none⟩), .agg #[.pointer (some ⟨nd.b, 0, none⟩), .string name]] w (fun e w' => e = .returned (.tuple #[]) ∧ ∃ S', Own ⟨w0, S'⟩ w' L ∧ Tree S' (Pc L) t (takeTx T j name) ∧ Frame S S' (t :: T.foot) (t :: (takeTx T j name).foot) w.heap.size) :=
  (take_any hO H h.there h.dir name hs g.there g.file g.low g.high).mono fun e w' hd => by
    obtain ⟨S', e1, h1, h2, h3⟩ := hd
    rw [takeTx_of h.there hs g.there]
    exact ⟨e1, S', h1, h2, h3⟩
theorem put_on {w0 w : World} {S : Blocks} {L : List Rw} {t : Nat} {T : Tr} (hO : Own ⟨w0, S⟩ w L) (H : Tree S (Pc L) t T) {j : Int} {nd : Nd} {k : Nat} (h : At T j nd k) (name : ByteArray) {i : Int} {f : Nd} (g : Fl T i f) :
    Calls Tryz.prog 88 #[.pointer (some ⟨t, 0, none⟩), .agg #[.pointer (some ⟨nd.b, 0, none⟩), .string name], .int .i64 i] w (fun e w' => e = .returned (.tuple #[]) ∧ ∃ S', Own ⟨w0, S'⟩ w' L ∧ Tree S' (Pc L) t (putTx T j name i) ∧ Frame S S' (t :: T.foot) (t :: (putTx T j name i).foot) w.heap.size) :=
  (put_any hO H h.there h.dir name g.there g.file g.low g.high).mono fun e w' hd => by
    obtain ⟨S', e1, h1, h2, h3⟩ := hd
    rw [putTx_of name h.there g.there]
    exact ⟨e1, S', h1, h2, h3⟩
end Go.Proofs.YtamkfadammlhbaaGreatDoor
