/- Calls that read a tree: stands, Dir, Used. -/
import Derived.Test.YtamkfadammlhbaaGreatDoorTree1
namespace Go.Proofs.YtamkfadammlhbaaGreatDoor
open Go.RowKit
open Go.ChangeMaps (setBlock)
set_option linter.unusedVariables false
set_option linter.unusedSimpArgs false
set_option maxRecDepth 100000

def standT (T : Tr) (l : List UInt8) : Option Nd := (findT T l).bind fun i => look T.nodes i
theorem look_zero {T : Tr} (G : Good T) : look T.nodes 0 = none := by
  cases h : look T.nodes 0 with
  | none => rfl
  | some n => have : (1 : Int) ≤ 0 := (G.low _ (look_mem h)).1; omega
theorem find_there {T : Tr} (G : Good T) {l : List UInt8} {i : Int} (h : findT T l = some i) : ∃ n, look T.nodes i = some n := by
  unfold findT at h
  split at h
  · exact walkT_there G (by obtain ⟨n, _, h, _⟩ := G.root; exact ⟨n, h⟩) h
  · cases h
theorem stands_any {w : World} {D : Value → List Int → Prop} {t : Nat} {T : Tr} (H : TreeIn (inW w) D t T) (G : Good T) (s : ByteArray) (hs : s.size ≤ maxLen) (hm : Mx w) :
    Calls Tryz.prog 57 #[.pointer (some ⟨t, 0, none⟩), .string s] w fun e w' => e = .returned (ptrOf (standT T s.data.toList)) ∧ Below w.heap.size w w' := by
  have hf := find_any H G s hs hm
  have hst : look T.nodes ((findT T s.data.toList).getD 0) = standT T s.data.toList := by
    unfold standT
    cases findT T s.data.toList with
    | none => exact look_zero G
    | some i => rfl
  have HS := Lib.hid hst
  clear hst
  generalize (findT T s.data.toList).getD 0 = i at *
  go_enter Tryz.func57, Tryz.ntmps57
  go_wp2_with fail
  refine hf.mono ?_
  rintro e w1 ⟨rfl, hb⟩
  have h1 := H.later hb
  obtain ⟨_, _, c2⟩ := h1.at0
  have hlk := h1.look i
  rw [HS.out] at hlk
  clear H h1
  go_wp2_with fail
  go_ret
  exact ⟨rfl, hb⟩
def dirT (T : Tr) (l : List UInt8) : Bool := match standT T l with
  | some n => n.k.isSome
  | none => false
theorem stand_mem {T : Tr} {l : List UInt8} {n : Nd} (h : standT T l = some n) : ∃ i, (i, n) ∈ T.nodes := by
  unfold standT at h
  cases hf : findT T l with
  | none => rw [hf] at h; cases h
  | some i => rw [hf] at h; exact ⟨i, look_mem h⟩
theorem isdir_any {w : World} {D : Value → List Int → Prop} {t : Nat} {T : Tr} (H : TreeIn (inW w) D t T) (G : Good T) (s : ByteArray) (hs : s.size ≤ maxLen) (hm : Mx w) :
    Calls Tryz.prog 27 #[.pointer (some ⟨t, 0, none⟩), .string s] w fun e w' => e = .returned (.bool (dirT T s.data.toList)) ∧ Below w.heap.size w w' := by
  have hf := stands_any H G s hs hm
  cases hst : standT T s.data.toList with
  | none =>
    rw [hst] at hf
    have hd : dirT T s.data.toList = false := by unfold dirT; rw [hst]
    rw [hd]
    dsimp only [ptrOf] at hf
    clear hst hd
    go_enter Tryz.func27, Tryz.ntmps27
    go_wp2_with fail
    refine hf.mono ?_
    rintro e w1 ⟨rfl, hb⟩
    go_wp2_with fail
    go_ret
    exact ⟨rfl, hb⟩
  | some n =>
    rw [hst] at hf
    have hd : dirT T s.data.toList = n.k.isSome := by unfold dirT; rw [hst]
    rw [hd]
    obtain ⟨i, hi⟩ := stand_mem hst
    have hN := H.node _ hi
    dsimp only [ptrOf] at hf
    clear hst hd
    go_enter Tryz.func27, Tryz.ntmps27
    go_wp2_with fail
    refine hf.mono ?_
    rintro e w1 ⟨rfl, hb⟩
    have hd1 := dir_any ((H.later hb).node _ hi)
    clear hN H
    go_wp2_with (go_at_call 58; refine hd1.mono ?_; rintro e w' ⟨rfl, rfl⟩)
    go_ret
    exact ⟨rfl, hb⟩

/-! ### Used -/
def sumT (l : List (Int × Nd)) : Nat := (l.map fun p => p.2.data.length).sum
theorem sumT_perm {a b : List (Int × Nd)} (h : a.Perm b) : sumT a = sumT b := (h.map _).sum_nat
def ndV (l : List (Int × Nd)) : List (Int × Value) := l.map fun p => (p.1, .pointer (some ⟨p.2.b, 0, none⟩))
theorem below_setBlock {B : Nat} {a w : World} (h : Below B a w) {r : Nat} (hr : B ≤ r) (o : Obj) : Below B a (setBlock w r o) :=
  h.trans ⟨rfl, rfl, rfl, by simp [setBlock], fun i hi => by
    have : r ≠ i := by omega
    simp [setBlock, this]⟩
/-- Going through a tree's nodes: these are done, these still to come. -/
def Walks (w : World) (t : Nat) (T : Tr) (oi o : Obj) (done left : List (Int × Nd)) (wr : World) : Prop :=
  wr.heap[w.heap.size]? = some oi ∧ w.heap[T.bm]? = some o ∧ IterO KI oi T.bm o (nodesV T) (ndV left) ∧ (done ++ left).Perm T.nodes ∧ Below w.heap.size w wr
theorem Walks.start {w : World} {D : Value → List Int → Prop} {t : Nat} {T : Tr} (H : TreeIn (inW w) D t T) : ∃ oi o, (Instr.range 73 (.map (some T.bm))).run Tryz.prog w = .ok (.pointer (some ⟨w.heap.size, 0, none⟩)) (w.alloc oi) ∧ Walks w t T oi o [] T.nodes (w.alloc oi) := by
  obtain ⟨o, h1, h2⟩ := H.map
  obtain ⟨oi, h3, h4⟩ := h2.range Tryz.underlying73 h1
  exact ⟨oi, o, h3, (MapKept.heap_alloc w _).1, h1, h4, List.Perm.refl _, (Below.refl _ _).alloc (Nat.le_refl _) _⟩
theorem ndV_split {l : List (Int × Nd)} {x z : List (Int × Value)} {y : Int × Value} (h : ndV l = x ++ y :: z) : ∃ a p c, l = a ++ p :: c ∧ ndV a = x ∧ y = (p.1, .pointer (some ⟨p.2.b, 0, none⟩)) ∧ ndV c = z := by
  obtain ⟨a, p, c, h1, h2, h3, h4⟩ := map_split _ l x y z h
  exact ⟨a, p, c, h1, h2, h3.symm, h4⟩
theorem Walks.next {w wr : World} {t : Nat} {T : Tr} {oi o : Obj} {done left : List (Int × Nd)} (h : Walks w t T oi o done left wr) :
    (left = [] ∧ ∀ ty, (Instr.next (.pointer (some ⟨w.heap.size, 0, none⟩)) false ty).run Tryz.prog wr = .ok (.tuple #[.bool false]) wr) ∨
    ∃ (l1 l2 : List (Int × Nd)) (p : Int × Nd) (oi' : Obj) (w2 : World), left = l1 ++ p :: l2 ∧ (∀ ty, (Instr.next (.pointer (some ⟨w.heap.size, 0, none⟩)) false ty).run Tryz.prog wr = .ok (.tuple #[.bool true, .int .i64 p.1, .pointer (some ⟨p.2.b, 0, none⟩)]) w2) ∧ Walks w t T oi' o (done ++ [p]) (l1 ++ l2) w2 ∧ p ∈ T.nodes ∧
      (∀ u : World, u.heap[w.heap.size]? = some oi' → u.heap[T.bm]? = some o → (Instr.entry (.pointer (some ⟨w.heap.size, 0, none⟩))).run Tryz.prog u = .ok (.tuple #[.int .i64 p.1, .pointer (some ⟨p.2.b, 0, none⟩)]) u) := by
  obtain ⟨h1, h2, h3, h4, h5⟩ := h
  have hlt := lt_of_heap h2
  have h2' : wr.heap[T.bm]? = some o := (h5.block _ hlt).trans h2
  rcases h3.next (P := Tryz.prog) 0 h1 h2' with ⟨g1, g2⟩ | ⟨x, y, z, w1, oi', g1, g2, g3, g4, g5⟩
  · left
    have : left = [] := List.map_eq_nil_iff.1 g1
    exact ⟨this, fun ty => g2⟩
  · right
    obtain ⟨l1, p, l2, e1, e2, e3, e4⟩ := ndV_split g1
    have hb1 : Below w.heap.size w w1 := by rcases g2 with rfl | rfl; exact h5; exact h5.drew
    have hlt1 : w.heap.size < w1.heap.size := by rcases g2 with rfl | rfl <;> exact lt_of_heap h1
    obtain ⟨s1, s2, s3⟩ := setBlock_heap w1 w.heap.size oi' hlt1
    refine ⟨l1, l2, p, oi', setBlock w1 w.heap.size oi', e1, fun ty => by rw [show (Instr.next (.pointer (some ⟨w.heap.size, 0, none⟩)) false ty) = (Instr.next (.pointer (some ⟨w.heap.size, 0, none⟩)) false 0) from rfl, g3, e3], ⟨s1, h2, by rw [show ndV (l1 ++ l2) = x ++ z by rw [← e2, ← e4]; simp [ndV]]; exact g4, ?_, below_setBlock hb1 (Nat.le_refl _) _⟩, ?_, fun u hu hu2 => by rw [g5 u hu hu2, e3]⟩
    · refine List.Perm.trans ?_ h4
      rw [e1]
      simp only [List.append_assoc, List.singleton_append]
      exact (List.perm_middle.symm).append_left done
    · exact h4.subset (by rw [e1]; simp)
theorem Walks.tree {w wr : World} {D : Value → List Int → Prop} {t : Nat} {T : Tr} {oi o : Obj} {done left : List (Int × Nd)} (h : Walks w t T oi o done left wr) (H : TreeIn (inW w) D t T) : TreeIn (inW wr) D t T := H.later h.2.2.2.2
theorem Walks.entry {w wr : World} {t : Nat} {T : Tr} {oi o : Obj} {done left : List (Int × Nd)} (h : Walks w t T oi o done left wr) : wr.heap[w.heap.size]? = some oi ∧ wr.heap[T.bm]? = some o := ⟨h.1, (h.2.2.2.2.block _ (lt_of_heap h.2.1)).trans h.2.1⟩
def leftN (w : World) (b r : Nat) : Nat := match w.heap[b]?, w.heap[r]? with
  | some (.map es _), some (.mapIter _ _ seen _) => (leftOf es seen).size
  | _, _ => 0
theorem Walks.left_eq {w wr : World} {t : Nat} {T : Tr} {oi o : Obj} {done left : List (Int × Nd)} (h : Walks w t T oi o done left wr) : leftN wr T.bm w.heap.size = left.length := by
  obtain ⟨e1, e2⟩ := h.entry
  obtain ⟨es, clock, since, seen, c0, rfl, rfl, _, _, _, _, _, _, h7⟩ := h.2.2.1
  have := congrArg List.length h7
  simp only [leftN, e1, e2]
  simpa [ndV] using this
def UsedRel (w : World) (t : Nat) (T : Tr) (s : Value) (wr : World) : Prop := ∃ oi o done left, Walks w t T oi o done left wr ∧ s = .int .i64 (sumT done : Nat)
theorem used_any {w : World} {D : Value → List Int → Prop} {t : Nat} {T : Tr} (H : TreeIn (inW w) D t T) (hu : sumT T.nodes ≤ 1000000000) :
    Calls Tryz.prog 25 #[.pointer (some ⟨t, 0, none⟩)] w fun e w' => e = .returned (.int .i64 (sumT T.nodes : Nat)) ∧ Below w.heap.size w w' := by
  obtain ⟨_, _, c2⟩ := H.at0
  obtain ⟨oi, o, hrun, hW⟩ := Walks.start H
  have HW := Lib.hid hW
  have HH := Lib.hid H
  clear H hW
  go_enter Tryz.func25, Tryz.ntmps25
  go_wp2_with fail
  go_loopw [3] (fun s wr => UsedRel w t T s wr) (fun _ wr => leftN wr T.bm w.heap.size)
  case atStart => exact ⟨oi, o, [], T.nodes, HW.out, rfl⟩
  case round =>
    obtain ⟨oi2, o2, done, left, hW, rfl⟩ := hrel
    have hle := hW.left_eq
    have hperm := hW.2.2.2.1
    have HW2 := Lib.hid hW
    have HB := Lib.hid hW.2.2.2.2
    rcases hW.next with ⟨rfl, hn⟩ | ⟨l1, l2, p, oi', w2, rfl, hn, hW', hp, hen⟩
    · have HS := Lib.hid (show sumT done = sumT T.nodes from sumT_perm (by simpa using hperm))
      clear hW hle hperm
      go_wp2_with fail
      go_ret
      exact ⟨by rw [HS.out]; rfl, HB.out⟩
    · have hN := (hW'.tree HH.out).node p hp
      obtain ⟨_, d1, _⟩ := hN.at0
      obtain ⟨a, c, hf⟩ := hN.form
      rw [hf] at d1
      obtain ⟨e1, e2⟩ := hW'.entry
      have hent := hen w2 e1 e2
      have hsum : sumT (done ++ [p]) = sumT done + p.2.data.length := by simp [sumT]
      have htot : sumT (done ++ [p]) ≤ 1000000000 := by
        have h1 := sumT_perm hW'.2.2.2.1
        have h2 : sumT (done ++ [p] ++ (l1 ++ l2)) = sumT (done ++ [p]) + sumT (l1 ++ l2) := by simp [sumT]; omega
        omega
      have HX := Lib.hid (show UsedRel w t T (.int .i64 (sumT (done ++ [p]) : Nat)) w2 from ⟨oi', o2, _, _, hW', rfl⟩)
      have hl2 := hW'.left_eq
      have HL := Lib.hid (show leftN w2 T.bm w.heap.size < leftN wr T.bm w.heap.size by rw [hle, hl2]; simp)
      rw [hsum] at htot
      have HSm := Lib.hid hsum
      clear hW hW' hN hf e1 e2 hen hperm hle hl2 hsum
      generalize sumT done = X at *
      go_wp2_with fail
      go_roundw
      case rel => rw [HSm.out] at HX; have := HX.out; rwa [Int.natCast_add] at this
      case measure => exact HL.out
end Go.Proofs.YtamkfadammlhbaaGreatDoor
