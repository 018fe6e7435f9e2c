/- The document's example of a disk holds of the program; the call makes memory alone. -/
import Derived.Test.YtpebpchnkhbcfaaKDisk4
namespace Go.Proofs.Ytpebpchnkhbcfaa
open Go.RowKit
set_option linter.unusedVariables false
set_option linter.unusedSimpArgs false

/-- A sector with one byte, the others nought. -/
def secB (b : Int) : List Value := .int .u8 b :: List.replicate 63 (.int .u8 0)
theorem secB_sec (b : Int) : isSec (secB b) := ⟨rfl, by intro v hv; rcases List.mem_cons.1 hv with rfl | hv; rfl; rw [(List.mem_replicate.1 hv).2]; rfl⟩
theorem built_secB (b : Int) : Try.prog.built 55 [(0, .int .u8 b)] = some (secB b).toArray := by kernel_rfl

/-- A box more beside a disk. -/
theorem DkAt.more {W0 : Base} {w : World} {d : Nat} {D : Dk} {L : List Rw} {r : Rw} (hD : D.Ok) {kb lb n : Nat} {sv : Value} (hn : n = D.last.length) (h : Own W0 w (r :: rowsOf d kb lb sv n D L)) : DkAt W0 w d D (r :: L) := ⟨hD, kb, lb, n, sv, hn, h.unfifth⟩
theorem DkAt.extra {W0 : Base} {w : World} {d : Nat} {D : Dk} {L : List Rw} {r : Rw} (h : DkAt W0 w d D (r :: L)) : ∃ M, Own W0 w (r :: M) := by
  obtain ⟨hD, kb, lb, n, sv, hn, hO⟩ := h
  exact ⟨_, hO.fifth⟩
theorem DkAt.cell {W0 : Base} {w : World} {d : Nat} {D : Dk} {L : List Rw} {e size g n cap : Nat} {xs : List Value} (h : DkAt W0 w d D L) (hm : (⟨e, size, .slice (some ⟨g, 0, none⟩) n cap, n, xs⟩ : Rw) ∈ L) (j : Nat) (hj : j < n * size) : w.cell? ⟨g, j, none⟩ = xs[j]? := by
  obtain ⟨hD, kb, lb, m, sv, hn, hO⟩ := h
  have := hO.rows _ (List.mem_cons_of_mem _ (List.mem_cons_of_mem _ (List.mem_cons_of_mem _ (List.mem_cons_of_mem _ hm))))
  exact World.ownsRow.cellAt this j hj
/-- A sector that a call answered is stored into a new variable. -/
theorem wpList_store_dk {P : Program} {ops : Array Oper} {rest : List Oper} {op : Oper} {a : Act} {w : World} {Q : Exit → Act → World → Prop} (hgd : op.guard = none) (ty : TypeId) (x y : Operand) (ho : op.op = .store ty x y)
    {W0 : Base} {d : Nat} {D : Dk} {L : List Rw} (h : DkAt W0 w d D L) {Z : Array Value} (cs : List Value) (b : Nat) (hb : b = w.heap.size) (hx : a.eval x = .pointer (some ⟨b, 0, none⟩)) (hy : a.eval y = .agg cs.toArray) (hz : Z.size = cs.length)
    (hi : (P.info? ty).map (·.size) = some cs.length) (h1 : ∀ v ∈ cs, v.oneCell' = true)
    (hK : ∀ w', DkAt W0 w' d D (⟨ty, cs.length, .slice (some ⟨b, 0, none⟩) 1 1, 1, cs⟩ :: L) → wpList P ops Q rest (a.put op.dst undef) w') : wpList P ops Q (op :: rest) a (w.alloc (.cells Z ty)) := by
  obtain ⟨hD, kb, lb, n, sv, hn, hO⟩ := h
  exact wpList_store_new hgd ty x y ho hO cs b hb hx hy hz hi h1 fun w' hO' _ => hK w' (DkAt.more hD hn hO')

def aD0 : Dk := newM 2
def aD1 : Dk := (writeM aD0 0 (secB 1)).1
def aD2 : Dk := (flushM aD1).1
def aD3 : Dk := (writeM aD2 0 (secB 2)).1
def aD4 : Dk := crashM aD3 0
def aD5 : Dk := onM aD4
theorem aE1 : (writeM aD0 0 (secB 1)).2 = 0 := by decide +kernel
theorem aE2 : (flushM aD1).2 = 0 := by decide +kernel
theorem aE3 : (writeM aD2 0 (secB 2)).2 = 0 := by decide +kernel
theorem aE4 : (readM aD3 0).2 = 0 := by decide +kernel
theorem aE5 : (readM aD4 0).2 = 3 := by decide +kernel
theorem aE6 : (readM aD5 0).2 = 0 := by decide +kernel
theorem aR3 : (readM aD3 0).1 = secB 2 := by kernel_rfl
theorem aR4 : (readM aD4 0).1 = zSec := by kernel_rfl
theorem aR5 : (readM aD5 0).1 = secB 1 := by kernel_rfl
theorem aS : aD5.steps = 3 := by decide +kernel
theorem aL : (aD5.last.length : Int) = 2 := by decide +kernel
theorem aW : aD5.down = false := by kernel_rfl

end Go.Proofs.Ytpebpchnkhbcfaa
