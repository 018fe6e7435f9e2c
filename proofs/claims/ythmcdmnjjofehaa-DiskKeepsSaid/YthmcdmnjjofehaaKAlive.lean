/- The document's example of a disk holds of the program; the call makes memory alone. -/
import Derived.Test.YthmcdmnjjofehaaKDisk4
namespace Go.Proofs.Ythmcdmnjjofehaa
open Go.RowKit
set_option linter.unusedVariables false
set_option linter.unusedSimpArgs false

/-- A sector with one byte, the others nought. -/
def secB (b : Int) : List Value := .int .u8 b :: List.replicate 63 (.int .u8 0)
theorem secB_sec (b : Int) : isSec (secB b) := ⟨rfl, by intro v hv; rcases List.mem_cons.1 hv with rfl | hv; rfl; rw [(List.mem_replicate.1 hv).2]; rfl⟩
theorem built_secB (b : Int) : Try.prog.built 39 [(0, .int .u8 b)] = some (secB b).toArray := by kernel_rfl

/-- A box more beside a disk. -/
theorem DkAt.more {W0 : Base} {w : World} {d : Nat} {D : Dk} {L : List Rw} {r : Rw} (hD : D.Ok) {kb lb n : Nat} {sv : Value} (hn : n = D.last.length) (h : Own W0 w (r :: rowsOf d kb lb sv n D L)) : DkAt W0 w d D (r :: L) := ⟨hD, kb, lb, n, sv, hn, h.unfifth⟩
theorem DkAt.extra {W0 : Base} {w : World} {d : Nat} {D : Dk} {L : List Rw} {r : Rw} (h : DkAt W0 w d D (r :: L)) : ∃ M, Own W0 w (r :: M) := by
  obtain ⟨hD, kb, lb, n, sv, hn, hO⟩ := h
  exact ⟨_, hO.fifth⟩
theorem DkAt.cell {W0 : Base} {w : World} {d : Nat} {D : Dk} {L : List Rw} {e size g n cap : Nat} {xs : List Value} (h : DkAt W0 w d D L) (hm : (⟨e, size, .slice (some ⟨g, 0, none⟩) n cap, n, xs⟩ : Rw) ∈ L) (j : Nat) (hj : j < n * size) : w.cell? ⟨g, j, none⟩ = xs[j]? := by
  obtain ⟨hD, kb, lb, m, sv, hn, hO⟩ := h
  have := hO.rows _ (List.mem_cons_of_mem _ (List.mem_cons_of_mem _ (List.mem_cons_of_mem _ (List.mem_cons_of_mem _ hm))))
  exact World.ownsRow.cellAt this j hj
/-- A sector that a call answered is stored into a new variable. -/
theorem wpList_store_dk {P : Program} {ops : Array Oper} {rest : List Oper} {op : Oper} {a : Act} {w : World} {Q : Exit → Act → World → Prop} (hgd : op.guard = none) (ty : TypeId) (x y : Operand) (ho : op.op = .store ty x y)
    {W0 : Base} {d : Nat} {D : Dk} {L : List Rw} (h : DkAt W0 w d D L) {Z : Array Value} (cs : List Value) (b : Nat) (hb : b = w.heap.size) (hx : a.eval x = .pointer (some ⟨b, 0, none⟩)) (hy : a.eval y = .agg cs.toArray) (hz : Z.size = cs.length)
    (hi : (P.info? ty).map (·.size) = some cs.length) (h1 : ∀ v ∈ cs, v.oneCell' = true)
    (hK : ∀ w', DkAt W0 w' d D (⟨ty, cs.length, .slice (some ⟨b, 0, none⟩) 1 1, 1, cs⟩ :: L) → wpList P ops Q rest (a.put op.dst undef) w') : wpList P ops Q (op :: rest) a (w.alloc (.cells Z ty)) := by
  obtain ⟨hD, kb, lb, n, sv, hn, hO⟩ := h
  exact wpList_store_new hgd ty x y ho hO cs b hb hx hy hz hi h1 fun w' hO' _ => hK w' (DkAt.more hD hn hO')

def aD0 : Dk := newM 2
def aD1 : Dk := (writeM aD0 0 (secB 1)).1
def aD2 : Dk := (flushM aD1).1
def aD3 : Dk := (writeM aD2 0 (secB 2)).1
def aD4 : Dk := crashM aD3 0
def aD5 : Dk := onM aD4
theorem aE1 : (writeM aD0 0 (secB 1)).2 = 0 := by decide +kernel
theorem aE2 : (flushM aD1).2 = 0 := by decide +kernel
theorem aE3 : (writeM aD2 0 (secB 2)).2 = 0 := by decide +kernel
theorem aE4 : (readM aD3 0).2 = 0 := by decide +kernel
theorem aE5 : (readM aD4 0).2 = 3 := by decide +kernel
theorem aE6 : (readM aD5 0).2 = 0 := by decide +kernel
theorem aR3 : (readM aD3 0).1 = secB 2 := by kernel_rfl
theorem aR4 : (readM aD4 0).1 = zSec := by kernel_rfl
theorem aR5 : (readM aD5 0).1 = secB 1 := by kernel_rfl
theorem aS : aD5.steps = 3 := by decide +kernel
theorem aL : (aD5.last.length : Int) = 2 := by decide +kernel
theorem aW : aD5.down = false := by kernel_rfl

set_option maxHeartbeats 1600000 in
set_option maxRecDepth 100000 in
theorem alive_any (w : World) :
    Calls Try.prog 7 #[] w fun e w' => e = .returned (.bool true) ∧ Below w.heap.size w w' := by
  have hzs := zero_sector
  have hs1 := secB_sec 1
  have hs2 := secB_sec 2
  have hz1 : (Try.prog.info? 39).map (·.size) = some (secB 2).length := info_sector
  have hz2 : (Try.prog.info? 39).map (·.size) = some zSec.length := info_sector
  have hz3 : (Try.prog.info? 39).map (·.size) = some (secB 1).length := info_sector
  have hb1 := built_secB 1
  have hb2 := built_secB 2
  have Hs1 := Lib.hid hs1
  have Hs2 := Lib.hid hs2
  clear hs1 hs2
  go_enter Try.func7, Try.ntmps7
  go_wp2_with fail
  refine (new_pos w w [] 2 (Own.start w) (by decide) (by decide)).mono ?_
  rintro e w1 ⟨d, rfl, hA⟩
  have hA : DkAt w w1 d aD0 [] := hA
  go_wp2_with (refine wpList_build rfl 39 _ rfl [(0, .int .u8 1)] rfl _ hb1 ?_)
  refine (write_any w w1 d aD0 [] 0 (secB 1) hA Hs1.out (by decide +kernel) (by decide +kernel)).mono ?_
  rintro e w2 ⟨rfl, hA⟩
  have hA : DkAt w w2 d aD1 [] := hA
  rw [aE1]
  go_wp2_with fail
  refine (flush_any w w2 d aD1 [] hA (by decide +kernel)).mono ?_
  rintro e w3 ⟨rfl, hA⟩
  have hA : DkAt w w3 d aD2 [] := hA
  rw [aE2]
  go_wp2_with (refine wpList_build rfl 39 _ rfl [(0, .int .u8 2)] rfl _ hb2 ?_)
  refine (write_any w w3 d aD2 [] 0 (secB 2) hA Hs2.out (by decide +kernel) (by decide +kernel)).mono ?_
  rintro e w4 ⟨rfl, hA⟩
  have hA : DkAt w w4 d aD3 [] := hA
  rw [aE3]
  go_wp2_with fail
  refine (read_any w w4 d aD3 [] 0 hA).mono ?_
  rintro e w5 ⟨rfl, hb⟩
  rw [aE4, aR3]
  have hA := hA.later hb
  clear hb
  go_wp2_with (refine wpList_store_dk rfl 39 (.tmp 5) (.tmp 25) rfl hA (secB 2) w5.heap.size rfl rfl rfl rfl hz1 Hs2.out.2 ?_)
  intro w6 hA
  go_wp2_with fail
  refine (crash_any w w6 d aD3 _ 0 hA (by decide) (by decide)).mono ?_
  rintro e w7 ⟨rfl, hA⟩
  have hA : DkAt w w7 d aD4 _ := hA
  go_wp2_with fail
  refine (read_any w w7 d aD4 _ 0 hA).mono ?_
  rintro e w8 ⟨rfl, hb⟩
  rw [aE5, aR4]
  have hA := hA.later hb
  clear hb
  go_wp2_with (refine wpList_store_dk rfl 39 (.tmp 7) (.tmp 32) rfl hA zSec w8.heap.size rfl rfl rfl rfl hz2 zSec_sec.2 ?_)
  intro w9 hA
  go_wp2_with fail
  refine (on_any w w9 d aD4 _ hA).mono ?_
  rintro e w10 ⟨rfl, hA⟩
  have hA : DkAt w w10 d aD5 _ := hA
  go_wp2_with fail
  refine (read_any w w10 d aD5 _ 0 hA).mono ?_
  rintro e w11 ⟨rfl, hb⟩
  rw [aE6, aR5]
  have hA := hA.later hb
  clear hb
  go_wp2_with (refine wpList_store_dk rfl 39 (.tmp 9) (.tmp 39) rfl hA (secB 1) w11.heap.size rfl rfl rfl rfl hz3 Hs1.out.2 ?_)
  intro w12 hA
  have c5 : w12.cell? ⟨w5.heap.size, 0, none⟩ = some (.int .u8 2) := hA.cell (e := 39) (size := (secB 2).length) (n := 1) (cap := 1) (xs := secB 2) (by simp) 0 (by decide)
  have c9 : w12.cell? ⟨w11.heap.size, 0, none⟩ = some (.int .u8 1) := hA.cell (e := 39) (size := (secB 1).length) (n := 1) (cap := 1) (xs := secB 1) (by simp) 0 (by decide)
  have hbw := hA.below
  have hS := aS
  have hL := aL
  have hW := aW
  go_wp2_with (first
    | (go_at_call 20; refine (len_any w w12 d aD5 _ hA).mono ?_; rintro e w' ⟨rfl, rfl⟩)
    | (go_at_call 19; refine (steps_any w w12 d aD5 _ hA).mono ?_; rintro e w' ⟨rfl, rfl⟩)
    | (go_at_call 18; refine (down_any w w12 d aD5 _ hA).mono ?_; rintro e w' ⟨rfl, rfl⟩))
  go_ret
  exact ⟨rfl, hbw⟩
end Go.Proofs.Ythmcdmnjjofehaa
