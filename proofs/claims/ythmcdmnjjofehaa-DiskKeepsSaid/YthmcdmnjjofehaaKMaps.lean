/- Maps that the law has made, beside rows and disk. -/
import Derived.Test.YthmcdmnjjofehaaKKeep0
import Derived.Maps.Own
import Derived.Maps.OwnOps
import Derived.Maps.Views
import Derived.DeepKeys4
import Derived.ProofKit
namespace Go.Proofs.Ythmcdmnjjofehaa
open Go.RowKit
open Go.Maps (Keyed IsMap int_keyed keyOf_int_mk)
set_option linter.unusedVariables false
set_option linter.unusedSimpArgs false

/-- One of the maps is written: it is another now; all else stays. -/
theorem Own.remap {w0 : World} {ms : List (Nat × Obj)} {w w' : World} {L : List Rw} {b : Nat} (h : Own ⟨w0, ms⟩ w L) (hb : b ∈ ms.map (·.1)) (hg : w.grownBy w' (some b)) (hs : ∃ o, w'.heap[b]? = some o) :
    ∃ ms', Own ⟨w0, ms'⟩ w' L ∧ ms'.map (·.1) = ms.map (·.1) := by
  obtain ⟨o, ho⟩ := hs
  obtain ⟨m0, hm0, rfl⟩ := List.mem_map.1 hb
  refine ⟨ms.map fun m => (m.1, if m.1 = m0.1 then o else m.2), ⟨h.below.grown hg h.size (fun k hk => by cases hk; exact (h.maps m0 hm0).1), fun p hp => ?_, h.apart, fun m hm => ?_, fun m hm p hp => ?_⟩, by simp⟩
  · refine (h.rows p hp).kept hg ?_
    by_cases hpn : p.v.ownBlock = none
    · exact .inl hpn
    · exact .inr (h.offmaps m0 hm0 p hp)
  · obtain ⟨m1, hm1, rfl⟩ := List.mem_map.1 hm
    refine ⟨(h.maps m1 hm1).1, ?_⟩
    show w'.heap[m1.1]? = some (if m1.1 = m0.1 then o else m1.2)
    by_cases e : m1.1 = m0.1
    · rw [if_pos e, e]; exact ho
    · rw [if_neg e, hg.block m1.1 (lt_of_heap (h.maps m1 hm1).2) (fun e' => e (Option.some.inj e'))]
      exact (h.maps m1 hm1).2
  · obtain ⟨m1, hm1, rfl⟩ := List.mem_map.1 hm
    exact h.offmaps m1 hm1 p hp
/-- A map is made. -/
theorem Own.newMap {w0 : World} {ms : List (Nat × Obj)} {w : World} {L : List Rw} (h : Own ⟨w0, ms⟩ w L) (o : Obj) : Own ⟨w0, (w.heap.size, o) :: ms⟩ (w.alloc o) L := by
  have h1 := h.alloc o
  refine ⟨h1.below, h1.rows, h1.apart, fun m hm => ?_, fun m hm p hp => ?_⟩
  · rcases List.mem_cons.1 hm with rfl | hm
    · exact ⟨h.size, (MapKept.heap_alloc w _).1⟩
    · exact h1.maps m hm
  · rcases List.mem_cons.1 hm with rfl | hm
    · intro e
      have := (h.lt hp e).2
      exact absurd this (Nat.lt_irrefl _)
    · exact h1.offmaps m hm p hp
theorem Own.same {w0 : World} {ms : List (Nat × Obj)} {w w' : World} {L L' : List Rw} (h : Own ⟨w0, ms⟩ w L) (h' : Own ⟨w0, ms⟩ w' L') {b : Nat} (hb : b ∈ ms.map (·.1)) : w'.heap[b]? = w.heap[b]? := by
  obtain ⟨m, hm, rfl⟩ := List.mem_map.1 hb
  rw [(h.maps m hm).2, (h'.maps m hm).2]
theorem DkAt.own {W0 : Base} {w : World} {d : Nat} {D : Dk} {L : List Rw} (h : DkAt W0 w d D L) : Own W0 w L := by
  obtain ⟨_, _, _, _, _, _, hO⟩ := h
  exact hO.tail.tail.tail.tail
theorem DkAt.remap {w0 : World} {ms : List (Nat × Obj)} {w w' : World} {d : Nat} {D : Dk} {L : List Rw} {b : Nat} (h : DkAt ⟨w0, ms⟩ w d D L) (hb : b ∈ ms.map (·.1)) (hg : w.grownBy w' (some b)) (hs : ∃ o, w'.heap[b]? = some o) :
    ∃ ms', DkAt ⟨w0, ms'⟩ w' d D L ∧ ms'.map (·.1) = ms.map (·.1) := by
  obtain ⟨hD, kb, lb, n, sv, hn, hO⟩ := h
  obtain ⟨ms', h1, h2⟩ := hO.remap hb hg hs
  exact ⟨ms', ⟨hD, kb, lb, n, sv, hn, h1⟩, h2⟩
theorem DkAt.newMap {w0 : World} {ms : List (Nat × Obj)} {w : World} {d : Nat} {D : Dk} {L : List Rw} (h : DkAt ⟨w0, ms⟩ w d D L) (o : Obj) : DkAt ⟨w0, (w.heap.size, o) :: ms⟩ (w.alloc o) d D L := by
  obtain ⟨hD, kb, lb, n, sv, hn, hO⟩ := h
  exact ⟨hD, kb, lb, n, sv, hn, hO.newMap o⟩

section
variable {H : Type} {P : Program} {k : TypeId} {R : Value → Option (DataW H × List MemPlace)} {w w' : World} {b n : Nat} {D : DataW H}
theorem ownsMap_same (h : w.ownsMap P k R b n D) (he : w'.heap[b]? = w.heap[b]?) : w'.ownsMap P k R b n D := by
  obtain ⟨es, clock, hb, F, hs, hD⟩ := h
  exact ⟨es, clock, he.trans hb, F, hs, hD⟩
theorem ownsMap_isMap (h : w.ownsMap P k R b n D) : IsMap D := by
  obtain ⟨es, clock, hb, F, hs, rfl⟩ := h
  exact ⟨_, rfl⟩
theorem ownsMap_obj (h : w.ownsMap P k R b n D) : ∃ o, w.heap[b]? = some o := by
  obtain ⟨es, clock, hb, _⟩ := h
  exact ⟨_, hb⟩
end

/-- A map's value that is a map reads as its block's number. -/
def rdMap (v : Value) : Option (DataW Unit × List MemPlace) := match v with
  | .map (some b) => some (.lit (.int .i64 (b : Int)), [])
  | .map none => some (.nil, [])
  | _ => none
theorem rdMap_inv {v : Value} {b : Nat} {ps : List MemPlace} (h : rdMap v = some (.lit (.int .i64 (b : Int)), ps)) : v = .map (some b) := by
  unfold rdMap at h
  split at h
  · rename_i b'
    simp only [Option.some.injEq, Prod.mk.injEq, DataW.lit.injEq, Lit.int.injEq, true_and] at h
    have := h.1
    rw [show b' = b from by omega]
  · simp at h
  · cases h

/-! ### Keys -/
theorem laidOutK : laidOutB Try.prog = true := by kernel_rfl
theorem rowSec : (39 : TypeId) < Try.prog.types.size := of_decide_eq_true (by kernel_rfl)
theorem wideSec : (match Try.prog.underlying 39 with | some (.array _ _) | some (.struct _) => true | _ => false) = true := by rw [Try.underlying39]
theorem lawS : Keyed Try.prog 39 := Keyed.of_law (deep_law_laid laidOutK (m := 2) (by omega) rowSec keyT wideSec)
theorem lawI : Keyed Try.prog 3 := int_keyed Try.underlying3
theorem keyTypeSec : Try.prog.keyType 39 = true := by kernel_rfl
theorem typesN : ∃ d, Try.prog.types.size + 1 = d + 2 := ⟨Try.prog.types.size - 1, by have h : 0 < Try.prog.types.size := Nat.lt_of_le_of_lt (Nat.zero_le _) rowSec; omega⟩
def secLits (s : List Value) : List Lit := ((List.range 64).map fun i => [Lit.int .u8 (intOf (s.getD i undef))]).flatten
def secKey (s : List Value) : Lit := .string (keyBytes (secLits s))
theorem lits_at (d : Nat) (s : List Value) (hs : byteSec s) (h64 : s.length = 64) : Try.prog.keyLits (d + 2) 39 s = some (secLits s) := by
  unfold Program.keyLits
  rw [Try.underlying39]
  simp only [cellsS, h64, if_true]
  rw [cellsB, mapM_lits s hs d 64 (by omega)]
  rfl
theorem keyOf_sec (s : List Value) (hs : byteSec s) (h64 : s.length = 64) : keyOf Try.prog 39 (.agg s.toArray) = some (secKey s) := by
  have hf : (Value.agg s.toArray).formed Try.prog 39 = true := by
    unfold Value.formed
    rw [Try.underlying39]
    simp [cellsS, h64]
  obtain ⟨d, hd⟩ := typesN
  unfold keyOf
  rw [Try.underlying39]
  simp only [keyTypeSec, hf, Bool.and_self, if_true]
  rw [hd]
  have := lits_at d s hs h64
  simp [Value.cells, this, secKey]

/-- What the law's maps are: sector x of n may be what the map at bs[x] holds. -/
structure May (w : World) (b0 : Nat) (bs : List Nat) (DS : List (DataW Unit)) (n0 c : Nat) : Prop where
  outer : ∃ D : DataW Unit, w.ownsMap Try.prog 3 rdMap b0 n0 D ∧ ∀ x (hx : x < bs.length), D.atKey (.int .i64 (x : Int)) .nil = .lit (.int .i64 ((bs[x] : Nat) : Int))
  len : DS.length = bs.length
  inner : ∀ x (hx : x < bs.length) (hy : x < DS.length), w.ownsMap (H := Unit) Try.prog 39 (plainElem Try.prog 3) bs[x] c DS[x]
  apart : (b0 :: bs).Nodup
theorem May.same {w w' : World} {b0 : Nat} {bs : List Nat} {DS : List (DataW Unit)} {n0 c : Nat} (h : May w b0 bs DS n0 c) (he : ∀ b ∈ b0 :: bs, w'.heap[b]? = w.heap[b]?) : May w' b0 bs DS n0 c := by
  obtain ⟨⟨D, h1, h2⟩, h3, h4, h5⟩ := h
  exact ⟨⟨D, ownsMap_same h1 (he b0 (List.mem_cons_self ..)), h2⟩, h3, fun x hx hy => ownsMap_same (h4 x hx hy) (he _ (List.mem_cons_of_mem _ (List.getElem_mem hx))), h5⟩
/-- May sector x be s? -/
def mayBe (DS : List (DataW Unit)) (x : Nat) (s : List Value) : Prop := byteSec s ∧ s.length = 64 ∧ ∃ D, DS[x]? = some D ∧ D.atKey (secKey s) (.lit (.int .i64 0)) = .lit (.int .i64 1)
end Go.Proofs.Ythmcdmnjjofehaa
