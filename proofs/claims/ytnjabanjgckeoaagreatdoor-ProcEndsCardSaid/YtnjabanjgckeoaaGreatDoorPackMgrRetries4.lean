/- Texts one behind the other, each in a section of its own: what calls make of memory, step by step. -/
import Derived.Test.YtnjabanjgckeoaaGreatDoorPackMgrRetries3
import Derived.Lib.SplitLaws
import Derived.Lib.Join
import Derived.Laws.RangeAny
import Derived.Test.YtnjabanjgckeoaaGreatDoorChecked
import Derived.Lib.OthersKept
import Derived.Lib.Hide
import Derived.Deep.LoopGhost
import Derived.Shelf.Strings.Builder1
import Derived.Shelf.Strings.Builder2
import Derived.Shelf.Strings.OnBuilder
import Derived.Shelf.Small.Bits
import Derived.Shelf.Small.Wraps
import Derived.Shelf.Strconv.Itoa0
import Derived.Shelf.Strings.Search1
import Derived.Shelf.Strings.Search2
import Derived.Shelf.Strings.Search3
import Derived.Shelf.Strings.Count
import Derived.Shelf.Sort.Plain
import Derived.Shelf.Strings.Prefix
import Derived.Shelf.Strings.Split
import Derived.Shelf.Slices.Turned
import Derived.Ground.Names2Prog
import Derived.Shelf.Slices.Clone
import Derived.Shelf.Slices.SearchI
import Derived.Shelf.Slices.Delete
import Derived.Shelf.Slices.Cells
import Derived.Shelf.Slices.Empties
import Derived.Ground.SlgmProg
import Derived.Shelf.SortM.SortNone
import Derived.Test.YtnjabanjgckeoaaGreatDoorProg
import Derived.Deep.RegionHeld3

/- Paths as plain data: names, the pieces between slashes, whether a text is a path, and its names. Of no program. -/
section
namespace Go.Proofs.YtnjabanjgckeoaaGreatDoor
open Go.RowKit
set_option linter.unusedVariables false
set_option linter.unusedSimpArgs false

/-- A text's bytes, and the text that bytes are. -/
abbrev toB (l : List UInt8) : ByteArray := ⟨l.toArray⟩
theorem toB_size (l : List UInt8) : (toB l).size = l.length := by simp [ByteArray.size]
theorem toB_inj {a b : List UInt8} (h : toB a = toB b) : a = b := by
  have := congrArg (fun s : ByteArray => s.data.toList) h
  simpa using this

def letB (c : UInt8) : Bool := decide (97 ≤ c.toNat ∧ c.toNat ≤ 122 ∨ 48 ≤ c.toNat ∧ c.toNat ≤ 57 ∨ c.toNat = 45 ∨ c.toNat = 46 ∨ c.toNat = 95)
def letR (r : Int) : Bool := decide (97 ≤ r ∧ r ≤ 122 ∨ 48 ≤ r ∧ r ≤ 57 ∨ r = 45 ∨ r = 46 ∨ r = 95)
theorem letR_low (c : UInt8) : letR (c.toNat : Int) = letB c := by
  unfold letR letB
  rw [Bool.eq_iff_iff, decide_eq_true_iff, decide_eq_true_iff]; omega
theorem letR_high (r : Int) (h : 128 ≤ r) : letR r = false := by
  unfold letR; rw [decide_eq_false_iff_not]; omega
theorem letB_high (c : UInt8) (h : 128 ≤ c.toNat) : letB c = false := by
  unfold letB; rw [decide_eq_false_iff_not]; omega
theorem letB_slash : letB 47 = false := by decide

def nameL (l : List UInt8) : Bool := decide (1 ≤ l.length ∧ l.length ≤ 12 ∧ l ≠ [46] ∧ l ≠ [46, 46]) && l.all letB
theorem nameL_no_slash {l : List UInt8} (h : nameL l = true) : (47 : UInt8) ∉ l := by
  unfold nameL at h
  simp only [Bool.and_eq_true, List.all_eq_true] at h
  intro hm
  have := h.2 47 hm
  rw [letB_slash] at this; cases this

/-- A piece ahead of the first of pieces. -/
def glue (p : List UInt8) : List (List UInt8) → List (List UInt8)
  | [] => [p]
  | q :: r => (p ++ q) :: r
/-- The pieces between slashes. -/
def partsL : List UInt8 → List (List UInt8)
  | [] => [[]]
  | c :: l => if c = 47 then [] :: partsL l else glue [c] (partsL l)
theorem partsL_ne (l : List UInt8) : partsL l ≠ [] := by
  cases l with
  | nil => simp [partsL]
  | cons c l => unfold partsL; split <;> simp [glue]; split <;> simp
theorem glue_length (a : List UInt8) {r : List (List UInt8)} (h : r ≠ []) : (glue a r).length = r.length := by
  cases r with
  | nil => exact absurd rfl h
  | cons b r => rfl
theorem partsL_length (l : List UInt8) : 1 ≤ (partsL l).length ∧ (partsL l).length ≤ l.length + 1 := by
  induction l with
  | nil => simp [partsL]
  | cons c l ih =>
    unfold partsL
    split
    · simp; omega
    · rw [glue_length _ (partsL_ne l)]; simp; omega
theorem parts_le (l : List UInt8) : ∀ p ∈ partsL l, p.length ≤ l.length := by
  induction l with
  | nil => simp [partsL]
  | cons c l ih =>
    unfold partsL
    split
    · intro p hp
      rcases List.mem_cons.1 hp with rfl | hp
      · simp
      · have := ih p hp; simp; omega
    · have hne := partsL_ne l
      generalize partsL l = r at *
      cases r with
      | nil => exact absurd rfl hne
      | cons q r =>
        intro p hp
        rcases List.mem_cons.1 hp with rfl | hp
        · have := ih q (List.mem_cons_self ..); simp; omega
        · have := ih p (List.mem_cons_of_mem _ hp); simp; omega
theorem splitK_parts (l : List UInt8) : Lib.splitK [47] 0 (Lib.count l [47]) l = partsL l := by
  have main : ∀ (c : UInt8) (l : List UInt8), c ≠ 47 → ∀ k, Lib.splitK [47] 0 k (c :: l) = glue [c] (Lib.splitK [47] 0 k l) := by
    intro c l hc k
    cases k with
    | zero => rfl
    | succ k =>
      have hp : ([47] : List UInt8).isPrefixOf (c :: l) = false := by simp [List.isPrefixOf, Ne.symm hc]
      have hix : Lib.index (c :: l) [47] = if Lib.index l [47] == -1 then -1 else Lib.index l [47] + 1 := by rw [Lib.index, hp]; simp
      by_cases hm : Lib.index l [47] = -1
      · unfold Lib.splitK
        rw [hix, hm]; rfl
      · have hge := Lib.index_ge l [47]
        obtain ⟨j, hj⟩ : ∃ j : Nat, Lib.index l [47] = j := ⟨(Lib.index l [47]).toNat, by omega⟩
        have h1 : ¬ ((j : Int) == -1) = true := fun e => by have := beq_iff_eq.1 e; omega
        have h2 : ¬ ((j : Int) + 1 == -1) = true := fun e => by have := beq_iff_eq.1 e; omega
        unfold Lib.splitK
        rw [hix, hj, if_neg h1, if_neg h2]
        have e1 : ((j : Int) + 1).toNat = j + 1 := by omega
        rw [e1]
        simp only [Int.toNat_natCast, Nat.add_zero, List.length_singleton, List.take_succ_cons, List.drop_succ_cons, glue, h1]
        rfl
  induction l with
  | nil => rw [Lib.count_miss (by simp [Lib.index])]; rfl
  | cons c l ih =>
    by_cases hc : c = 47
    · subst hc
      rw [Lib.count_cons_eq, Nat.add_comm]
      have hix : Lib.index (47 :: l) [47] = 0 := by rw [Lib.index]; simp [List.isPrefixOf]
      unfold Lib.splitK partsL
      rw [hix, if_pos rfl, ← ih]; rfl
    · rw [Lib.count_cons_ne c 47 l hc, main c l hc, ih]
      unfold partsL
      rw [if_neg hc]
      cases l <;> rfl

/-- Whether a text is a path, and its names. -/
def okP (l : List UInt8) : Bool := decide (l = [47]) || (decide (l.length ≤ 40) && decide (l.head? = some 47) && decide ((partsL l.tail).length ≤ 5) && (partsL l.tail).all nameL)
def namesL (l : List UInt8) : List (List UInt8) := if l = [47] then [] else if okP l then partsL l.tail else []

theorem splitB_parts (s sep : ByteArray) (h : sep = toB [47]) : Lib.splitB sep 0 (Lib.countB s sep) s = (partsL s.data.toList).map toB := by
  subst h
  have h1 := Lib.splitB_data (toB [47]) 0 (Lib.countB s (toB [47])) s
  have h2 : Lib.countB s (toB [47]) = Lib.count s.data.toList [47] := rfl
  rw [h2] at h1 ⊢
  rw [splitK_parts] at h1
  rw [← h1, List.map_map]
  exact (List.map_id' _).symm
end Go.Proofs.YtnjabanjgckeoaaGreatDoor
end

/- 'letter' and 'Name' of package path, and the reference's 'Name': each tells 'letR', 'nameL'. -/
section
namespace Go.Proofs.YtnjabanjgckeoaaGreatDoor
open Go.RowKit
set_option linter.unusedVariables false
set_option linter.unusedSimpArgs false

theorem letR_yes {r : Int} (h : 97 ≤ r ∧ r ≤ 122 ∨ 48 ≤ r ∧ r ≤ 57 ∨ r = 45 ∨ r = 46 ∨ r = 95) : letR r = true := decide_eq_true h
theorem letR_no {r : Int} (h : ¬ (97 ≤ r ∧ r ≤ 122 ∨ 48 ≤ r ∧ r ≤ 57 ∨ r = 45 ∨ r = 46 ∨ r = 95)) : letR r = false := decide_eq_false h
theorem letter_any (r : Int) (w : World) : Calls Tryz.prog 129 #[.int .i32 r] w fun e w' => e = .returned (.bool (letR r)) ∧ w = w' := by
  go_enter Tryz.func129, Tryz.ntmps129
  go_wp2
  all_goals
    go_ret
    refine ⟨?_, rfl⟩
    try simp only [beq_iff_eq, beq_eq_false_iff_ne, ne_eq] at *
    first
      | (have h := letR_yes (r := r) (by omega); rw [h]; rfl)
      | (have h := letR_no (r := r) (by omega); rw [h]; rfl)

/-- The reference's Name. -/
theorem nameL_no {l : List UInt8} (h : ¬ (1 ≤ l.length ∧ l.length ≤ 12 ∧ l ≠ [46] ∧ l ≠ [46, 46])) : nameL l = false := by
  unfold nameL; rw [decide_eq_false h]; rfl
theorem nameL_yes {l : List UInt8} (h1 : 1 ≤ l.length) (h2 : l.length ≤ 12) (h3 : l ≠ [46]) (h4 : l ≠ [46, 46]) : nameL l = l.all letB := by
  unfold nameL; rw [decide_eq_true ⟨h1, h2, h3, h4⟩]; rfl
theorem take_all_succ (s : ByteArray) (k : Nat) (h : k < s.size) : (s.data.toList.take (k + 1)).all letB = ((s.data.toList.take k).all letB && letB s[k]) := by
  have e : s.data.toList.take (k + 1) = s.data.toList.take k ++ [s[k]] := by rw [List.take_succ_eq_append_getElem (by simpa using h)]; rfl
  rw [e]; simp
theorem all_no (s : ByteArray) (k : Nat) (h : k < s.size) (hl : letB s[k] = false) : s.data.toList.all letB = false := by
  rw [List.all_eq_false]
  exact ⟨s[k], by show s.data.toList[k]'(by simpa using h) ∈ _; exact List.getElem_mem _, by rw [hl]; decide⟩
/-- The four tests ahead. -/
theorem name_front (s : ByteArray) : (1 ≤ s.size ∧ s.size ≤ 12 ∧ (s.toList == [46]) = false ∧ (s.toList == [46, 46]) = false) ∨ nameL s.data.toList = false ∧ (s.size < 1 ∨ 12 < s.size ∨ (s.toList == [46]) = true ∧ s.size = 1 ∨ (s.toList == [46, 46]) = true ∧ s.size = 2 ∧ (s.toList == [46]) = false) := by
  have e := Lib.size_eq s
  rw [Lib.toList_data]
  generalize s.data.toList = l at *
  by_cases h1 : 1 ≤ s.size
  · by_cases h2 : s.size ≤ 12
    · by_cases h3 : l = [46]
      · refine .inr ⟨nameL_no (by simp [h3]), .inr (.inr (.inl ⟨beq_iff_eq.2 h3, by rw [e, h3]; rfl⟩))⟩
      · by_cases h4 : l = [46, 46]
        · refine .inr ⟨nameL_no (by simp [h4]), .inr (.inr (.inr ⟨beq_iff_eq.2 h4, by rw [e, h4]; rfl, by simp [h3]⟩))⟩
        · exact .inl ⟨h1, h2, by simp [h3], by simp [h4]⟩
    · exact .inr ⟨nameL_no (by omega), .inr (.inl (by omega))⟩
  · exact .inr ⟨nameL_no (by omega), .inl (by omega)⟩
theorem name_all {s : ByteArray} (h1 : 1 ≤ s.size) (h2 : s.size ≤ 12) (h3 : (s.toList == [46]) = false) (h4 : (s.toList == [46, 46]) = false) : nameL s.data.toList = s.data.toList.all letB := by
  rw [Lib.toList_data] at h3 h4
  have e := Lib.size_eq s
  exact nameL_yes (by omega) (by omega) (by simpa using h3) (by simpa using h4)
end Go.Proofs.YtnjabanjgckeoaaGreatDoor
end

/- 'Name' of package path: a range over a string's runes. -/
section
namespace Go.Proofs.YtnjabanjgckeoaaGreatDoor
open Go.RowKit
set_option linter.unusedVariables false
set_option linter.unusedSimpArgs false

theorem iterPos_at {w : World} {k : Nat} {s : ByteArray} {p : Nat} (h : w.heap[k]? = some (.stringIter s p)) : w.iterPos k = p := by simp [World.iterPos, h]
set_option maxHeartbeats 2000000 in
theorem name_any (s : ByteArray) (w : World) (hs : s.size ≤ maxLen) : Calls Tryz.prog 89 #[.string s] w fun e w' => e = .returned (.bool (nameL s.data.toList)) ∧ Below w.heap.size w w' := by
  unfold maxLen at hs
  rcases name_front s with ⟨h1, h2, h3, h4⟩ | ⟨hn, hh⟩
  · have HN := Lib.hid (name_all h1 h2 h3 h4)
    have h0 : (s.toList == []) = false := by
      rw [Lib.toList_data, beq_eq_false_iff_ne]; intro e; have h5 := Lib.size_eq s; rw [e] at h5; have h6 : s.size = 0 := h5; omega
    have h00 : s.toList ≠ [] := by simpa using h0
    go_enter Tryz.func89, Tryz.ntmps89
    go_wp2
    go_loopw [4] (fun v wr => ∃ pos : Nat, pos ≤ s.size ∧ wr.heap[w.heap.size]? = some (.stringIter s pos) ∧ Below w.heap.size w wr ∧ Hid ((s.data.toList.take pos).all letB = true)) (fun _ wr => s.size - wr.iterPos w.heap.size)
    case atStart => exact ⟨0, Nat.zero_le _, World.iter_heap w s 0, (Below.refl _ _).alloc (Nat.le_refl _) _, rfl⟩
    case round =>
      obtain ⟨pos, hpos, hit, hbw, HA⟩ := hrel
      have hpos0 := iterPos_at hit
      by_cases hp : pos < s.size
      · have hit1 : ∀ q, (wr.iterAt w.heap.size s q).heap[w.heap.size]? = some (.stringIter s q) := fun q => Lib.iterAt_heap wr w.heap.size s pos q hit
        have hbw1 : ∀ q, Below w.heap.size w (wr.iterAt w.heap.size s q) := fun q => Lib.below_iterAt hbw (k := w.heap.size) (Nat.le_refl _) s q
        by_cases ha : (s[pos]'hp).toNat < 128
        · have hnx : ∀ ty, (Instr.next (.pointer (some ⟨w.heap.size, 0, none⟩)) true ty).run Tryz.prog wr = _ := fun ty => Lib.run_next_ascii_at wr w.heap.size s pos ty hit hp ha
          have hbw2 := hbw1 (pos + 1)
          have hit2 := hit1 (pos + 1)
          generalize wr.iterAt w.heap.size s (pos + 1) = W1 at *
          have HS := Lib.hid (take_all_succ s pos hp)
          have HF := Lib.hid (all_no s pos hp)
          have HL := Lib.hid (letR_low s[pos])
          by_cases hl : letB s[pos] = true
          · have HR : letR (s[pos].toNat : Int) = true := by rw [HL.out]; exact hl
            go_wp2_with (go_at_call 129; refine (letter_any _ _).mono ?_; rintro e w' ⟨rfl, rfl⟩)
            go_roundw
            case rel => exact ⟨pos + 1, by omega, hit2, hbw2, by show (s.data.toList.take (pos + 1)).all letB = true; rw [HS.out, HA.out, hl]; rfl⟩
            case measure => rw [iterPos_at hit2, hpos0]; omega
          · have HR : letR (s[pos].toNat : Int) = false := by rw [HL.out]; simpa using hl
            go_wp2_with (go_at_call 129; refine (letter_any _ _).mono ?_; rintro e w' ⟨rfl, rfl⟩)
            go_ret
            exact ⟨by rw [HN.out, HF.out (by simpa using hl)]; rfl, hbw2⟩
        · have hnx : ∀ ty, (Instr.next (.pointer (some ⟨w.heap.size, 0, none⟩)) true ty).run Tryz.prog wr = _ := fun ty => Lib.run_next_any_at wr w.heap.size s pos ty hit hp
          have HR : letR ((Utf8.decode s pos).1 : Int) = false := letR_high _ (by have := (decode_high s pos hp (by omega)).1; omega)
          have hbw2 := hbw1 (pos + (Utf8.decode s pos).2)
          generalize wr.iterAt w.heap.size s (pos + (Utf8.decode s pos).2) = W1 at *
          have HF := Lib.hid (all_no s pos hp (letB_high _ (by omega)))
          generalize (Utf8.decode s pos).1 = r at *
          go_wp2_with (go_at_call 129; refine (letter_any _ _).mono ?_; rintro e w' ⟨rfl, rfl⟩)
          go_ret
          exact ⟨by rw [HN.out, HF.out]; rfl, hbw2⟩
      · have hnx : ∀ ty, (Instr.next (.pointer (some ⟨w.heap.size, 0, none⟩)) true ty).run Tryz.prog wr = _ := fun ty => Lib.run_next_end_at wr w.heap.size s pos ty hit hp
        have HT := Lib.hid (show s.data.toList.take pos = s.data.toList from List.take_of_length_le (by rw [← Lib.size_eq]; omega))
        go_wp2
        go_ret
        exact ⟨by rw [HN.out, ← HT.out, HA.out]; rfl, hbw⟩
  · rw [hn]
    have h0 : s.toList = [] ∧ (s.toList == []) = true ∨ s.toList ≠ [] ∧ (s.toList == []) = false ∧ 1 ≤ s.size := by
      by_cases h5 : s.toList = []
      · exact .inl ⟨h5, beq_iff_eq.2 h5⟩
      · refine .inr ⟨h5, beq_eq_false_iff_ne.2 h5, ?_⟩
        rw [Lib.toList_data] at h5
        rw [Lib.size_eq]
        exact List.length_pos_iff.2 h5
    have hz : s.size = s.toList.length := by rw [Lib.toList_data]; exact Lib.size_eq s
    have HZ := Lib.hid hz
    clear hz
    rcases h0 with ⟨h5, h6⟩ | ⟨h5, h6, h7⟩
    · go_enter Tryz.func89, Tryz.ntmps89
      go_wp2
      go_ret
      exact ⟨rfl, Below.refl _ _⟩
    · by_cases h8 : (s.toList == [46]) = true
      · have h8' := beq_iff_eq.1 h8
        go_enter Tryz.func89, Tryz.ntmps89
        go_wp2
        go_ret
        exact ⟨rfl, Below.refl _ _⟩
      · have h8a : (s.toList == [46]) = false := by simpa using h8
        by_cases h9 : (s.toList == [46, 46]) = true
        · have h9' := beq_iff_eq.1 h9
          clear h8
          go_enter Tryz.func89, Tryz.ntmps89
          go_wp2
          go_ret
          exact ⟨rfl, Below.refl _ _⟩
        · have h9a : (s.toList == [46, 46]) = false := by simpa using h9
          have h10 : 12 < s.size := by
            rcases hh with h | h | ⟨h, h'⟩ | ⟨h, h', h''⟩
            · omega
            · exact h
            · rw [h8a] at h; cases h
            · rw [h9a] at h; cases h
          clear h8 h9 hh
          go_enter Tryz.func89, Tryz.ntmps89
          go_wp2
          go_ret
          exact ⟨rfl, Below.refl _ _⟩
end Go.Proofs.YtnjabanjgckeoaaGreatDoor
end

/- Contracts of Go's library at this dump: each is the kit's compiled contract, at this dump's numbers. -/
section
namespace Go.Proofs
open Go.Shelf
def Tryz.lays156_ren : Go.Shelf.Ren := ⟨fun | 156 => 263 | 165 => 270 | 166 => 271 | 169 => 272 | 240 => 274 | 241 => 275 | 276 => 276 | 277 => 205 | n => n, fun | 31 => 29 | 9 => 9 | 3 => 3 | 4 => 4 | 0 => 0 | 20 => 20 | 72 => 344 | 76 => 348 | 70 => 342 | 37 => 82 | 75 => 347 | 127 => 352 | 164 => 353 | 5 => 5 | 80 => 350 | n => n, fun | n => n⟩
theorem Tryz.lays156 : Go.Proofs.Lays.n156 Tryz.prog Tryz.lays156_ren := {
  mixed := by kernel_rfl
  f156 := Tryz.func263.trans (congrArg some (by kernel_rfl))
  f165 := Tryz.func270.trans (congrArg some (by kernel_rfl))
  f166 := Tryz.func271.trans (congrArg some (by kernel_rfl))
  f169 := Tryz.func272.trans (congrArg some (by kernel_rfl))
  f240 := Tryz.func274.trans (congrArg some (by kernel_rfl))
  f241 := Tryz.func275.trans (congrArg some (by kernel_rfl))
  f276 := Tryz.func276.trans (congrArg some (by kernel_rfl))
  f277 := Tryz.func205.trans (congrArg some (by kernel_rfl))
  t0 := Tryz.underlying0
  a0 := Tryz.isAgg0
  z0 := Tryz.sizeOf0
  v0 := Tryz.zeroValue0
  t3 := Tryz.underlying3
  a3 := Tryz.isAgg3
  z3 := Tryz.sizeOf3
  v3 := Tryz.zeroValue3
  t4 := Tryz.underlying4
  a4 := Tryz.isAgg4
  z4 := Tryz.sizeOf4
  v4 := Tryz.zeroValue4
  t9 := Tryz.underlying9
  a9 := Tryz.isAgg9
  z9 := Tryz.sizeOf9
  v9 := Tryz.zeroValue9
  t20 := Tryz.underlying20
  a20 := Tryz.isAgg20
  z20 := Tryz.sizeOf20
  v20 := Tryz.zeroValue20
  t31 := Tryz.underlying29
  a31 := Tryz.isAgg29
  z31 := Tryz.sizeOf29
  v31 := Tryz.zeroValue29
  t37 := Tryz.underlying82
  a37 := Tryz.isAgg82
  z37 := Tryz.sizeOf82
  v37 := Tryz.zeroValue82
  t70 := Tryz.underlying342
  a70 := Tryz.isAgg342
  z70 := Tryz.sizeOf342
  v70 := Tryz.zeroValue342
  t72 := Tryz.underlying344
  a72 := Tryz.isAgg344
  z72 := Tryz.sizeOf344
  v72 := Tryz.zeroValue344
  t75 := Tryz.underlying347
  a75 := Tryz.isAgg347
  z75 := Tryz.sizeOf347
  v75 := Tryz.zeroValue347
  t76 := Tryz.underlying348
  a76 := Tryz.isAgg348
  z76 := Tryz.sizeOf348
  v76 := Tryz.zeroValue348
  t127 := Tryz.underlying352
  a127 := Tryz.isAgg352
  z127 := Tryz.sizeOf352
  v127 := Tryz.zeroValue352
  t164 := Tryz.underlying353
  a164 := Tryz.isAgg353
  z164 := Tryz.sizeOf353
  v164 := Tryz.zeroValue353 }
theorem Tryz.Builder_Extra_156 : Builder.Extra Tryz.prog Tryz.lays156_ren := {
  sizeBuilder := by kernel_rfl
  liesBuilder := by kernel_rfl
  t5 := Tryz.underlying5
  a5 := Tryz.isAgg5
  z5 := Tryz.sizeOf5
  v5 := Tryz.zeroValue5
  infoByte := by kernel_rfl
  cellsByte := by kernel_rfl
  sizeByte := by kernel_rfl
  neB5 := by decide }
open Go.RowKit in
theorem Tryz.strings_Join_none (a : Option Addr) (c : Nat) (sep : ByteArray) (w : World) :
    Calls Tryz.prog 263 #[.slice a 0 c, .string sep] w fun e w' => e = .returned (.string ⟨#[]⟩) ∧ w' = w := Any.strings_Join_none Tryz.lays156 Tryz.Builder_Extra_156 a c sep w
open Go.RowKit in
theorem Tryz.strings_Join (bk o c : Nat) (xs : List ByteArray) (sep : ByteArray) (w : World) (hcells : ∀ (j : Nat) x, xs[j]? = some x → w.cell? ⟨bk, o + j, none⟩ = some (.string x)) (hbk : bk < w.heap.size) (hN : xs.length ≤ 140737488355328) (hcap : xs.length ≤ c) (hlen : (Lib.join (xs.map (·.data.toList)) sep.data.toList).length ≤ 140737488355328) :
    Calls Tryz.prog 263 #[.slice (some ⟨bk, o, none⟩) xs.length c, .string sep] w fun e w' => e = .returned (.string ⟨(Lib.join (xs.map (·.data.toList)) sep.data.toList).toArray⟩) ∧ Below w.heap.size w w' := Any.strings_Join Tryz.lays156 Tryz.Builder_Extra_156 bk o c xs sep w hcells hbk hN hcap hlen
def Tryz.lays103_ren : Go.Shelf.Ren := ⟨fun | 103 => 87 | 210 => 127 | 206 => 181 | n => n, fun | 9 => 9 | 4 => 4 | 24 => 178 | 3 => 3 | n => n, fun | n => n⟩
theorem Tryz.lays103 : Go.Proofs.Lays.n103 Tryz.prog Tryz.lays103_ren := {
  mixed := by kernel_rfl
  f103 := Tryz.func87.trans (congrArg some (by kernel_rfl))
  f206 := Tryz.func181.trans (congrArg some (by kernel_rfl))
  f210 := Tryz.func127.trans (congrArg some (by kernel_rfl))
  t3 := Tryz.underlying3
  a3 := Tryz.isAgg3
  z3 := Tryz.sizeOf3
  v3 := Tryz.zeroValue3
  t4 := Tryz.underlying4
  a4 := Tryz.isAgg4
  z4 := Tryz.sizeOf4
  v4 := Tryz.zeroValue4
  t9 := Tryz.underlying9
  a9 := Tryz.isAgg9
  z9 := Tryz.sizeOf9
  v9 := Tryz.zeroValue9
  t24 := Tryz.underlying178
  a24 := Tryz.isAgg178
  z24 := Tryz.sizeOf178
  v24 := Tryz.zeroValue178 }
open Go.RowKit in
theorem Tryz.strings_CutPrefix (s p : ByteArray) (w : World) :
    Calls Tryz.prog 87 #[.string s, .string p] w fun e w' => e = .returned (.tuple #[.string ⟨(Lib.trimPrefix s.data.toList p.data.toList).toArray⟩, .bool (Lib.hasPrefix s.data.toList p.data.toList)]) ∧ w' = w := Any.strings_CutPrefix Tryz.lays103 s p w
def Tryz.lays189_ren : Go.Shelf.Ren := ⟨fun | 189 => 91 | 125 => 115 | 257 => 131 | 128 => 162 | 129 => 163 | 294 => 185 | 295 => 186 | 296 => 187 | 297 => 188 | 298 => 189 | 299 => 190 | 216 => 191 | 300 => 192 | 301 => 193 | 328 => 236 | 329 => 212 | 330 => 213 | 331 => 237 | 332 => 238 | 215 => 239 | 343 => 262 | n => n, fun | 28 => 22 | 3 => 3 | 46 => 33 | 0 => 0 | 51 => 249 | 53 => 174 | 4 => 4 | 183 => 242 | 182 => 241 | 131 => 37 | 5 => 5 | 9 => 9 | 218 => 293 | 222 => 297 | 228 => 325 | 229 => 326 | n => n, fun | n => n⟩
theorem Tryz.lays189 : Go.Proofs.Lays.n189 Tryz.prog Tryz.lays189_ren := {
  mixed := by kernel_rfl
  f125 := Tryz.func115.trans (congrArg some (by kernel_rfl))
  f128 := Tryz.func162.trans (congrArg some (by kernel_rfl))
  f129 := Tryz.func163.trans (congrArg some (by kernel_rfl))
  f189 := Tryz.func91.trans (congrArg some (by kernel_rfl))
  f215 := Tryz.func239.trans (congrArg some (by kernel_rfl))
  f216 := Tryz.func191.trans (congrArg some (by kernel_rfl))
  f257 := Tryz.func131.trans (congrArg some (by kernel_rfl))
  f294 := Tryz.func185.trans (congrArg some (by kernel_rfl))
  f295 := Tryz.func186.trans (congrArg some (by kernel_rfl))
  f296 := Tryz.func187.trans (congrArg some (by kernel_rfl))
  f297 := Tryz.func188.trans (congrArg some (by kernel_rfl))
  f298 := Tryz.func189.trans (congrArg some (by kernel_rfl))
  f299 := Tryz.func190.trans (congrArg some (by kernel_rfl))
  f300 := Tryz.func192.trans (congrArg some (by kernel_rfl))
  f301 := Tryz.func193.trans (congrArg some (by kernel_rfl))
  f328 := Tryz.func236.trans (congrArg some (by kernel_rfl))
  f329 := Tryz.func212.trans (congrArg some (by kernel_rfl))
  f330 := Tryz.func213.trans (congrArg some (by kernel_rfl))
  f331 := Tryz.func237.trans (congrArg some (by kernel_rfl))
  f332 := Tryz.func238.trans (congrArg some (by kernel_rfl))
  f343 := Tryz.func262.trans (congrArg some (by kernel_rfl))
  t0 := Tryz.underlying0
  a0 := Tryz.isAgg0
  z0 := Tryz.sizeOf0
  v0 := Tryz.zeroValue0
  t3 := Tryz.underlying3
  a3 := Tryz.isAgg3
  z3 := Tryz.sizeOf3
  v3 := Tryz.zeroValue3
  t4 := Tryz.underlying4
  a4 := Tryz.isAgg4
  z4 := Tryz.sizeOf4
  v4 := Tryz.zeroValue4
  t5 := Tryz.underlying5
  a5 := Tryz.isAgg5
  z5 := Tryz.sizeOf5
  v5 := Tryz.zeroValue5
  t9 := Tryz.underlying9
  a9 := Tryz.isAgg9
  z9 := Tryz.sizeOf9
  v9 := Tryz.zeroValue9
  t28 := Tryz.underlying22
  a28 := Tryz.isAgg22
  z28 := Tryz.sizeOf22
  v28 := Tryz.zeroValue22
  t46 := Tryz.underlying33
  a46 := Tryz.isAgg33
  z46 := Tryz.sizeOf33
  v46 := Tryz.zeroValue33
  t51 := Tryz.underlying249
  a51 := Tryz.isAgg249
  z51 := Tryz.sizeOf249
  v51 := Tryz.zeroValue249
  t53 := Tryz.underlying174
  a53 := Tryz.isAgg174
  z53 := Tryz.sizeOf174
  v53 := Tryz.zeroValue174
  t131 := Tryz.underlying37
  a131 := Tryz.isAgg37
  z131 := Tryz.sizeOf37
  v131 := Tryz.zeroValue37
  t182 := Tryz.underlying241
  a182 := Tryz.isAgg241
  z182 := Tryz.sizeOf241
  v182 := Tryz.zeroValue241
  t183 := Tryz.underlying242
  a183 := Tryz.isAgg242
  z183 := Tryz.sizeOf242
  v183 := Tryz.zeroValue242
  t218 := Tryz.underlying293
  a218 := Tryz.isAgg293
  z218 := Tryz.sizeOf293
  v218 := Tryz.zeroValue293
  t222 := Tryz.underlying297
  a222 := Tryz.isAgg297
  z222 := Tryz.sizeOf297
  v222 := Tryz.zeroValue297
  t228 := Tryz.underlying325
  a228 := Tryz.isAgg325
  z228 := Tryz.sizeOf325
  v228 := Tryz.zeroValue325
  t229 := Tryz.underlying326
  a229 := Tryz.isAgg326
  z229 := Tryz.sizeOf326
  v229 := Tryz.zeroValue326 }
open Go.Sort Go.RowKit in
theorem Tryz.slices_Sort_int (blk off cap : Nat) (zs : List Int) (w : World) (hH : Holds (Value.int .i64) w blk off zs.toArray) (hblk : blk < w.heap.size) (hsz : zs.length < 4611686018427387904) :
    Calls Tryz.prog 91 #[.slice (some ⟨blk, off, none⟩) zs.length cap] w fun e w' =>
      e = .returned (.tuple #[]) ∧ ∃ n os, w' = grow (putRow (Value.int .i64) (Sort.ahead w n) blk off (zs.mergeSort fun x y => decide (x ≤ y)).toArray) os := Any.slices_Sort_int Tryz.lays189 blk off cap zs w hH hblk hsz
def Tryz.lays146_ren : Go.Shelf.Ren := ⟨fun | 146 => 88 | 221 => 128 | 268 => 182 | 138 => 183 | 143 => 184 | 195 => 232 | 197 => 233 | 218 => 234 | 219 => 235 | 260 => 257 | 217 => 258 | 225 => 259 | 224 => 260 | 267 => 261 | 266 => 268 | 314 => 269 | n => n, fun | 9 => 9 | 31 => 29 | 3 => 3 | 4 => 4 | 0 => 0 | 105 => 312 | 21 => 21 | 5 => 5 | 46 => 33 | 119 => 337 | 139 => 340 | 138 => 339 | 146 => 319 | 51 => 249 | n => n, fun | 1 => 0 | 3 => 1 | 4 => 2 | n => n⟩
theorem Tryz.lays146 : Go.Proofs.Lays.n146 Tryz.prog Tryz.lays146_ren := {
  mixed := by kernel_rfl
  f138 := Tryz.func183.trans (congrArg some (by kernel_rfl))
  f143 := Tryz.func184.trans (congrArg some (by kernel_rfl))
  f146 := Tryz.func88.trans (congrArg some (by kernel_rfl))
  f195 := Tryz.func232.trans (congrArg some (by kernel_rfl))
  f197 := Tryz.func233.trans (congrArg some (by kernel_rfl))
  f217 := Tryz.func258.trans (congrArg some (by kernel_rfl))
  f218 := Tryz.func234.trans (congrArg some (by kernel_rfl))
  f219 := Tryz.func235.trans (congrArg some (by kernel_rfl))
  f221 := Tryz.func128.trans (congrArg some (by kernel_rfl))
  f224 := Tryz.func260.trans (congrArg some (by kernel_rfl))
  f225 := Tryz.func259.trans (congrArg some (by kernel_rfl))
  f260 := Tryz.func257.trans (congrArg some (by kernel_rfl))
  f266 := Tryz.func268.trans (congrArg some (by kernel_rfl))
  f267 := Tryz.func261.trans (congrArg some (by kernel_rfl))
  f268 := Tryz.func182.trans (congrArg some (by kernel_rfl))
  f314 := Tryz.func269.trans (congrArg some (by kernel_rfl))
  t0 := Tryz.underlying0
  a0 := Tryz.isAgg0
  z0 := Tryz.sizeOf0
  v0 := Tryz.zeroValue0
  t3 := Tryz.underlying3
  a3 := Tryz.isAgg3
  z3 := Tryz.sizeOf3
  v3 := Tryz.zeroValue3
  t4 := Tryz.underlying4
  a4 := Tryz.isAgg4
  z4 := Tryz.sizeOf4
  v4 := Tryz.zeroValue4
  t5 := Tryz.underlying5
  a5 := Tryz.isAgg5
  z5 := Tryz.sizeOf5
  v5 := Tryz.zeroValue5
  t9 := Tryz.underlying9
  a9 := Tryz.isAgg9
  z9 := Tryz.sizeOf9
  v9 := Tryz.zeroValue9
  t21 := Tryz.underlying21
  a21 := Tryz.isAgg21
  z21 := Tryz.sizeOf21
  v21 := Tryz.zeroValue21
  t31 := Tryz.underlying29
  a31 := Tryz.isAgg29
  z31 := Tryz.sizeOf29
  v31 := Tryz.zeroValue29
  t46 := Tryz.underlying33
  a46 := Tryz.isAgg33
  z46 := Tryz.sizeOf33
  v46 := Tryz.zeroValue33
  t51 := Tryz.underlying249
  a51 := Tryz.isAgg249
  z51 := Tryz.sizeOf249
  v51 := Tryz.zeroValue249
  t105 := Tryz.underlying312
  a105 := Tryz.isAgg312
  z105 := Tryz.sizeOf312
  v105 := Tryz.zeroValue312
  t119 := Tryz.underlying337
  a119 := Tryz.isAgg337
  z119 := Tryz.sizeOf337
  t138 := Tryz.underlying339
  a138 := Tryz.isAgg339
  z138 := Tryz.sizeOf339
  v138 := Tryz.zeroValue339
  t139 := Tryz.underlying340
  a139 := Tryz.isAgg340
  z139 := Tryz.sizeOf340
  v139 := Tryz.zeroValue340
  t146 := Tryz.underlying319
  a146 := Tryz.isAgg319
  z146 := Tryz.sizeOf319
  v146 := Tryz.zeroValue319
  g1 := by kernel_rfl
  g3 := by kernel_rfl
  g4 := by kernel_rfl }
open Go.RowKit Go.Lib in
theorem Tryz.strings_Split (s sep : ByteArray) (m : Int) (w : World) (hs : s.size < 4294967281) (hm : w.cell? ⟨0, 0, none⟩ = some (.int .i64 m)) (h1 : 1 ≤ sep.size) :
    Calls Tryz.prog 88 #[.string s, .string sep] w fun e w' =>
      e = .returned (.slice (some ⟨w.heap.size, 0, none⟩) (Lib.countB s sep + 1) (Lib.countB s sep + 1)) ∧ w' = w.alloc (.cells ((Lib.splitB sep 0 (Lib.countB s sep) s).map Value.string).toArray 9) := Any.strings_Split Tryz.lays146 (by kernel_rfl) s sep m w hs hm h1
def Tryz.lays107_ren : Go.Shelf.Ren := ⟨fun | 107 => 81 | 108 => 113 | n => n, fun | 28 => 22 | 3 => 3 | 4 => 4 | 0 => 0 | n => n, fun | n => n⟩
theorem Tryz.lays107 : Go.Proofs.Lays.n107 Tryz.prog Tryz.lays107_ren := {
  mixed := by kernel_rfl
  f107 := Tryz.func81.trans (congrArg some (by kernel_rfl))
  f108 := Tryz.func113.trans (congrArg some (by kernel_rfl))
  t0 := Tryz.underlying0
  a0 := Tryz.isAgg0
  z0 := Tryz.sizeOf0
  v0 := Tryz.zeroValue0
  t3 := Tryz.underlying3
  a3 := Tryz.isAgg3
  z3 := Tryz.sizeOf3
  v3 := Tryz.zeroValue3
  t4 := Tryz.underlying4
  a4 := Tryz.isAgg4
  z4 := Tryz.sizeOf4
  v4 := Tryz.zeroValue4
  t28 := Tryz.underlying22
  a28 := Tryz.isAgg22
  z28 := Tryz.sizeOf22
  v28 := Tryz.zeroValue22 }
open Go.Lib in
theorem Tryz.slices_Contains_int (b off n c : Nat) (zs : List Int) (x : Int) (w : World) (hz : n ≤ zs.length) (hbig : n ≤ 9223372036854775807) (hc : ∀ j, j < zs.length → w.cell? ⟨b, off + j, none⟩ = some (.int .i64 (zs.getD j 0))) :
    Calls Tryz.prog 81 #[.slice (some ⟨b, off, none⟩) n c, .int .i64 x] w fun e w' => e = .returned (.bool ((zs.take n).contains x)) ∧ w' = w := Any.slices_Contains_int Tryz.lays107 b off n c zs x w hz hbig hc
def Tryz.lays110_ren : Go.Shelf.Ren := ⟨fun | 110 => 95 | 109 => 132 | n => n, fun | 31 => 29 | 9 => 9 | 4 => 4 | 3 => 3 | 0 => 0 | n => n, fun | n => n⟩
theorem Tryz.lays110 : Go.Proofs.Lays.n110 Tryz.prog Tryz.lays110_ren := {
  mixed := by kernel_rfl
  f109 := Tryz.func132.trans (congrArg some (by kernel_rfl))
  f110 := Tryz.func95.trans (congrArg some (by kernel_rfl))
  t0 := Tryz.underlying0
  a0 := Tryz.isAgg0
  z0 := Tryz.sizeOf0
  v0 := Tryz.zeroValue0
  t3 := Tryz.underlying3
  a3 := Tryz.isAgg3
  z3 := Tryz.sizeOf3
  v3 := Tryz.zeroValue3
  t4 := Tryz.underlying4
  a4 := Tryz.isAgg4
  z4 := Tryz.sizeOf4
  v4 := Tryz.zeroValue4
  t9 := Tryz.underlying9
  a9 := Tryz.isAgg9
  z9 := Tryz.sizeOf9
  v9 := Tryz.zeroValue9
  t31 := Tryz.underlying29
  a31 := Tryz.isAgg29
  z31 := Tryz.sizeOf29
  v31 := Tryz.zeroValue29 }
open Go.Lib in
theorem Tryz.slices_Contains_string (b off n c : Nat) (zs : List ByteArray) (x : ByteArray) (w : World) (hz : n ≤ zs.length) (hbig : n ≤ 9223372036854775807) (hc : ∀ j, j < zs.length → w.cell? ⟨b, off + j, none⟩ = some (.string (zs.getD j ByteArray.empty))) :
    Calls Tryz.prog 95 #[.slice (some ⟨b, off, none⟩) n c, .string x] w fun e w' => e = .returned (.bool (Lib.containsS (zs.take n) x)) ∧ w' = w := Any.slices_Contains_string Tryz.lays110 b off n c zs x w hz hbig hc
open Go.Lib in
theorem Tryz.slices_Contains_string_empty (a : Option Addr) (c : Nat) (x : ByteArray) (w : World) :
    Calls Tryz.prog 95 #[.slice a 0 c, .string x] w fun e w' => e = .returned (.bool false) ∧ w' = w := Any.slices_Contains_string_empty Tryz.lays110 a c x w
def Tryz.laysNm224_ren : Go.Shelf.Ren := ⟨fun | 24 => 98 | n => n, fun | 24 => 29 | 9 => 9 | 3 => 3 | 4 => 4 | 0 => 0 | n => n, fun | n => n⟩
theorem Tryz.laysNm224 : Go.Proofs.Lays2.n24 Tryz.prog Tryz.laysNm224_ren := {
  mixed := by kernel_rfl
  f24 := Tryz.func98.trans (congrArg some (by kernel_rfl))
  t0 := Tryz.underlying0
  a0 := Tryz.isAgg0
  z0 := Tryz.sizeOf0
  v0 := Tryz.zeroValue0
  t3 := Tryz.underlying3
  a3 := Tryz.isAgg3
  z3 := Tryz.sizeOf3
  v3 := Tryz.zeroValue3
  t4 := Tryz.underlying4
  a4 := Tryz.isAgg4
  z4 := Tryz.sizeOf4
  v4 := Tryz.zeroValue4
  t9 := Tryz.underlying9
  a9 := Tryz.isAgg9
  z9 := Tryz.sizeOf9
  v9 := Tryz.zeroValue9
  t24 := Tryz.underlying29
  a24 := Tryz.isAgg29
  z24 := Tryz.sizeOf29
  v24 := Tryz.zeroValue29
  i9 := by kernel_rfl }
open Go.RowKit Go.Lib Go.Sort in
theorem Tryz.slices_Delete_string (blk off cap i j : Nat) (zs : List (List UInt8)) (w : World) (hH : Holds encStr w blk off zs.toArray) (hcap : zs.length ≤ cap) (hm : cap ≤ 9223372036854775807) (hij : i ≤ j) (hj : j ≤ zs.length) :
    Calls Tryz.prog 98 #[.slice (some ⟨blk, off, none⟩) zs.length cap, .int .i64 i, .int .i64 j] w fun e w' => e = .returned (.slice (some ⟨blk, off, none⟩) (zs.length - (j - i)) cap) ∧ ∃ q, w' = putRow encStr (Sort.ahead w q) blk off (zs.take i ++ zs.drop j ++ List.replicate (j - i) []).toArray := Any.slices_Delete_string Tryz.laysNm224 blk off cap i j zs w hH hcap hm hij hj
def Tryz.laysSlM5_f91_ren : Go.Shelf.Ren := ⟨fun | 5 => 91 | 8 => 115 | 7 => 131 | 19 => 162 | 20 => 163 | 10 => 185 | 11 => 186 | 12 => 187 | 13 => 188 | 14 => 189 | 15 => 190 | 16 => 191 | 17 => 192 | 18 => 193 | 30 => 236 | 31 => 212 | 32 => 213 | 33 => 237 | 34 => 238 | 35 => 239 | 40 => 262 | n => n, fun | 23 => 22 | 25 => 3 | 3 => 3 | 32 => 33 | 22 => 22 | 0 => 0 | 44 => 249 | 46 => 174 | 4 => 4 | 36 => 242 | 35 => 241 | 41 => 37 | 5 => 5 | 9 => 9 | 53 => 293 | 57 => 297 | 63 => 325 | 64 => 326 | n => n, fun | n => n⟩
theorem Tryz.laysSlM5_f91 : Go.Proofs.SlLaysM.n5 Tryz.prog Tryz.laysSlM5_f91_ren := {
  mixed := by kernel_rfl
  f5 := ⟨Tryz.f91.name, by decide, Tryz.func91.trans (congrArg some (by kernel_rfl))⟩
  f7 := ⟨Tryz.f131.name, by decide, Tryz.func131.trans (congrArg some (by kernel_rfl))⟩
  f8 := Tryz.func115.trans (congrArg some (by kernel_rfl))
  f10 := ⟨Tryz.f185.name, by decide, Tryz.func185.trans (congrArg some (by kernel_rfl))⟩
  f11 := ⟨Tryz.f186.name, by decide, Tryz.func186.trans (congrArg some (by kernel_rfl))⟩
  f12 := ⟨Tryz.f187.name, by decide, Tryz.func187.trans (congrArg some (by kernel_rfl))⟩
  f13 := ⟨Tryz.f188.name, by decide, Tryz.func188.trans (congrArg some (by kernel_rfl))⟩
  f14 := ⟨Tryz.f189.name, by decide, Tryz.func189.trans (congrArg some (by kernel_rfl))⟩
  f15 := ⟨Tryz.f190.name, by decide, Tryz.func190.trans (congrArg some (by kernel_rfl))⟩
  f16 := ⟨Tryz.f191.name, by decide, Tryz.func191.trans (congrArg some (by kernel_rfl))⟩
  f17 := ⟨Tryz.f192.name, by decide, Tryz.func192.trans (congrArg some (by kernel_rfl))⟩
  f18 := ⟨Tryz.f193.name, by decide, Tryz.func193.trans (congrArg some (by kernel_rfl))⟩
  f19 := Tryz.func162.trans (congrArg some (by kernel_rfl))
  f20 := Tryz.func163.trans (congrArg some (by kernel_rfl))
  f30 := ⟨Tryz.f236.name, by decide, Tryz.func236.trans (congrArg some (by kernel_rfl))⟩
  f31 := Tryz.func212.trans (congrArg some (by kernel_rfl))
  f32 := Tryz.func213.trans (congrArg some (by kernel_rfl))
  f33 := ⟨Tryz.f237.name, by decide, Tryz.func237.trans (congrArg some (by kernel_rfl))⟩
  f34 := ⟨Tryz.f238.name, by decide, Tryz.func238.trans (congrArg some (by kernel_rfl))⟩
  f35 := ⟨Tryz.f239.name, by decide, Tryz.func239.trans (congrArg some (by kernel_rfl))⟩
  f40 := ⟨Tryz.f262.name, by decide, Tryz.func262.trans (congrArg some (by kernel_rfl))⟩
  t0 := Tryz.underlying0
  a0 := Tryz.isAgg0
  z0 := Tryz.sizeOf0
  v0 := Tryz.zeroValue0
  t3 := Tryz.underlying3
  a3 := Tryz.isAgg3
  z3 := Tryz.sizeOf3
  v3 := Tryz.zeroValue3
  t4 := Tryz.underlying4
  a4 := Tryz.isAgg4
  z4 := Tryz.sizeOf4
  v4 := Tryz.zeroValue4
  t5 := Tryz.underlying5
  a5 := Tryz.isAgg5
  z5 := Tryz.sizeOf5
  v5 := Tryz.zeroValue5
  t9 := Tryz.underlying9
  a9 := Tryz.isAgg9
  z9 := Tryz.sizeOf9
  v9 := Tryz.zeroValue9
  t22 := Tryz.underlying22
  a22 := Tryz.isAgg22
  z22 := Tryz.sizeOf22
  v22 := Tryz.zeroValue22
  t23 := Tryz.underlying22
  a23 := Tryz.isAgg22
  z23 := Tryz.sizeOf22
  v23 := Tryz.zeroValue22
  t25 := Tryz.underlying3
  a25 := Tryz.isAgg3
  z25 := Tryz.sizeOf3
  v25 := Tryz.zeroValue3
  t32 := Tryz.underlying33
  a32 := Tryz.isAgg33
  z32 := Tryz.sizeOf33
  v32 := Tryz.zeroValue33
  t35 := Tryz.underlying241
  a35 := Tryz.isAgg241
  z35 := Tryz.sizeOf241
  v35 := Tryz.zeroValue241
  t36 := Tryz.underlying242
  a36 := Tryz.isAgg242
  z36 := Tryz.sizeOf242
  v36 := Tryz.zeroValue242
  t41 := Tryz.underlying37
  a41 := Tryz.isAgg37
  z41 := Tryz.sizeOf37
  v41 := Tryz.zeroValue37
  t44 := Tryz.underlying249
  a44 := Tryz.isAgg249
  z44 := Tryz.sizeOf249
  v44 := Tryz.zeroValue249
  t46 := Tryz.underlying174
  a46 := Tryz.isAgg174
  z46 := Tryz.sizeOf174
  v46 := Tryz.zeroValue174
  t53 := Tryz.underlying293
  a53 := Tryz.isAgg293
  z53 := Tryz.sizeOf293
  v53 := Tryz.zeroValue293
  t57 := Tryz.underlying297
  a57 := Tryz.isAgg297
  z57 := Tryz.sizeOf297
  v57 := Tryz.zeroValue297
  t63 := Tryz.underlying325
  a63 := Tryz.isAgg325
  z63 := Tryz.sizeOf325
  v63 := Tryz.zeroValue325
  t64 := Tryz.underlying326
  a64 := Tryz.isAgg326
  z64 := Tryz.sizeOf326
  v64 := Tryz.zeroValue326 }
open Go.RowKit Go.Sort in
theorem Tryz.slices_Sort_int_none (p : Option Addr) (cap : Nat) (w : World) :
    Calls Tryz.prog 91 #[.slice p 0 cap] w fun e w' => e = .returned (.tuple #[]) ∧ w' = w := AnyM.slices_Sort_int_none Tryz.laysSlM5_f91 p cap w
end Go.Proofs
end

/- 'Split' of package path: a text's names, in a row of the call's own. -/
section
namespace Go.Proofs.YtnjabanjgckeoaaGreatDoor
open Go.RowKit
set_option linter.unusedVariables false
set_option linter.unusedSimpArgs false

/-- Texts as a row's cells; a row of texts. -/
abbrev strs (ls : List (List UInt8)) : List Value := ls.map fun l => Value.string (toB l)
abbrev rowSs (v : Value) (ls : List (List UInt8)) : Rw := ⟨9, 1, v, ls.length, strs ls⟩
theorem strs_length (ls : List (List UInt8)) : (strs ls).length = ls.length := by simp [strs]
theorem strs_at (ls : List (List UInt8)) (j : Nat) (h : j < ls.length) : (strs ls)[j]? = some (.string (toB ls[j])) := by simp [strs, h]
/-- The library's own bound of bytes: whatever number. -/
def Mx (w : World) : Prop := 0 < w.heap.size ∧ ∃ m : Int, w.cell? ⟨0, 0, none⟩ = some (.int .i64 m)
theorem Mx.later {w w' : World} (h : Mx w) (hb : Below w.heap.size w w') : Mx w' := by
  obtain ⟨h1, m, h2⟩ := h
  exact ⟨Nat.lt_of_lt_of_le h1 hb.size, m, by rw [hb.cell (p := ⟨0, 0, none⟩) h1]; exact h2⟩
theorem split_slash (s : ByteArray) (w : World) (hs : s.size ≤ 1000000) (hm : Mx w) : Calls Tryz.prog 88 #[.string s, .string ⟨#[47]⟩] w fun e w' =>
    e = .returned (.slice (some ⟨w.heap.size, 0, none⟩) (partsL s.data.toList).length (partsL s.data.toList).length) ∧ w' = w.alloc (.cells (strs (partsL s.data.toList)).toArray 9) := by
  obtain ⟨_, m, h2⟩ := hm
  have hsz : (⟨#[47]⟩ : ByteArray).size = 1 := rfl
  refine (Tryz.strings_Split s ⟨#[47]⟩ m w (by omega) h2 (by rw [hsz]; exact Nat.le_refl _)).mono ?_
  rintro e w' ⟨rfl, rfl⟩
  have h3 := splitB_parts s ⟨#[47]⟩ rfl
  have h4 := Lib.splitB_all ⟨#[47]⟩ (by rw [hsz]; exact Nat.le_refl _) 0 (Lib.countB s ⟨#[47]⟩) s rfl
  rw [h3] at h4
  rw [List.length_map] at h4
  rw [h3, ← h4, List.map_map]
  exact ⟨rfl, rfl⟩

theorem cut_pre (s p : ByteArray) (w : World) : Calls Tryz.prog 87 #[.string s, .string p] w fun e w' => e = .returned (.tuple #[.string ⟨(Lib.trimPrefix s.data.toList p.data.toList).toArray⟩, .bool (Lib.hasPrefix s.data.toList p.data.toList)]) ∧ w = w' :=
  (Tryz.strings_CutPrefix s p w).mono fun _ _ ⟨h1, h2⟩ => ⟨h1, h2.symm⟩
theorem name_list (l : List UInt8) (w : World) (hl : l.length ≤ 1000000) : Calls Tryz.prog 89 #[.string (toB l)] w fun e w' => e = .returned (.bool (nameL l)) ∧ Below w.heap.size w w' :=
  name_any (toB l) w (by rw [toB_size]; unfold maxLen; omega)
theorem Own.str {W0 : Base} {w : World} {g c : Nat} {ls : List (List UInt8)} {L : List Rw} (h : Own W0 w (rowSs (.slice (some ⟨g, 0, none⟩) ls.length c) ls :: L)) (k : Nat) (hk : k < ls.length) : w.cell? ⟨g, k, none⟩ = some (.string (toB ls[k])) := by
  rw [h.cell k (by omega)]; exact strs_at ls k hk
def SplitPost (w : World) (l : List UInt8) (e : Ending) (w' : World) : Prop := ∃ v, e = .returned (.tuple #[v, .bool (okP l)]) ∧ Own w w' [rowSs v (namesL l)]
theorem splitPost_no {w w' : World} {l : List UInt8} (h : okP l = false) (hb : Below w.heap.size w w') : SplitPost w l (.returned (.tuple #[.slice none 0 0, .bool false])) w' := by
  refine ⟨_, by rw [h], ?_⟩
  have h1 : namesL l = [] := by
    unfold namesL; rw [h]; split <;> rfl
  rw [h1]
  exact (Own.of_below hb).nil _ _
theorem okP_no_pre {l : List UInt8} (h1 : l ≠ [47]) (h : Lib.hasPrefix l [47] = false ∨ 40 < l.length) : okP l = false := by
  unfold okP
  rw [decide_eq_false h1]
  rcases h with h | h
  · have h2 : ¬ l.head? = some 47 := by
      intro e
      cases l with
      | nil => cases e
      | cons c l => simp at e; subst e; simp [Lib.hasPrefix, List.isPrefixOf] at h
    rw [decide_eq_false h2]; simp
  · rw [decide_eq_false (show ¬ l.length ≤ 40 by omega)]; simp
theorem okP_pre {l : List UInt8} (h1 : l ≠ [47]) (h2 : Lib.hasPrefix l [47] = true) (h3 : l.length ≤ 40) : okP l = (decide ((partsL l.tail).length ≤ 5) && (partsL l.tail).all nameL) ∧ Lib.trimPrefix l [47] = l.tail := by
  have h4 : l.head? = some 47 := by
    cases l with
    | nil => simp [Lib.hasPrefix, List.isPrefixOf] at h2
    | cons c l => simp [Lib.hasPrefix, List.isPrefixOf] at h2; simp [h2]
  refine ⟨?_, ?_⟩
  · unfold okP; rw [decide_eq_false h1, decide_eq_true h3, decide_eq_true h4]; simp
  · unfold Lib.trimPrefix; rw [h2]; simp
theorem all_take_succ {α : Type} (f : α → Bool) (ls : List α) (k : Nat) (h : k < ls.length) : (ls.take (k + 1)).all f = ((ls.take k).all f && f ls[k]) := by
  rw [List.take_succ_eq_append_getElem h, List.all_append, List.all_cons, List.all_nil, Bool.and_true]
theorem all_at_no {α : Type} (f : α → Bool) (ls : List α) (k : Nat) (h : k < ls.length) (hf : f ls[k] = false) : ls.all f = false := by
  rw [List.all_eq_false]
  exact ⟨ls[k], List.getElem_mem _, by rw [hf]; decide⟩
set_option maxHeartbeats 2000000 in
theorem split_any (s : ByteArray) (w : World) (hs : s.size ≤ maxLen) (hm : Mx w) : Calls Tryz.prog 51 #[.string s] w (SplitPost w s.data.toList) := by
  unfold maxLen at hs
  have hz : s.data.toList.length = s.size := (Lib.size_eq s).symm
  by_cases h1 : s.toList = [47]
  · have h1' : (s.toList == [47]) = true := beq_iff_eq.2 h1
    have hl : s.data.toList = [47] := by rw [← Lib.toList_data]; exact h1
    have HP := Lib.hid (show SplitPost w s.data.toList (.returned (.tuple #[.slice none 0 0, .bool true])) w from by
      rw [hl]; exact ⟨_, rfl, (Own.start w).nil _ _⟩)
    clear hl hz
    go_enter Tryz.func51, Tryz.ntmps51
    go_wp2
    go_ret2
    exact HP.out
  have h1' : (s.toList == [47]) = false := beq_eq_false_iff_ne.2 h1
  have h1l : s.data.toList ≠ [47] := by rw [← Lib.toList_data]; exact h1
  by_cases h2 : Lib.hasPrefix s.data.toList [47] = true
  · by_cases h3 : s.size ≤ 40
    · obtain ⟨h4, h5⟩ := okP_pre h1l h2 (by omega)
      have hlen := partsL_length s.data.toList.tail
      have htl : s.data.toList.tail.length ≤ 40 := by rw [List.length_tail]; omega
      have hnm : namesL s.data.toList = if okP s.data.toList then partsL s.data.toList.tail else [] := by unfold namesL; rw [if_neg h1l]
      have hsp := split_slash (toB s.data.toList.tail)
      have hts : (toB s.data.toList.tail).size ≤ 1000000 := by rw [toB_size]; omega
      have hsp : ∀ w, Mx w → Calls Tryz.prog 88 #[.string ⟨(Lib.trimPrefix s.data.toList [47]).toArray⟩, .string ⟨#[47]⟩] w fun e w' => e = .returned (.slice (some ⟨w.heap.size, 0, none⟩) (partsL s.data.toList.tail).length (partsL s.data.toList.tail).length) ∧ w' = w.alloc (.cells (strs (partsL s.data.toList.tail)).toArray 9) := by
        intro w hm; rw [h5]; exact hsp w hts hm
      have HP := Lib.hid h4
      have HQ := Lib.hid hnm
      have HL := Lib.hid (show ∀ p ∈ partsL s.data.toList.tail, p.length ≤ 40 from fun p hp => Nat.le_trans (parts_le _ p hp) htl)
      have hlen40 : (partsL s.data.toList.tail).length ≤ 41 := by omega
      clear hnm hlen h4 h5 hts h1l hz htl
      generalize s.data.toList.tail = rest at *
      generalize hls : partsL rest = ls at *
      clear hls
      by_cases h6 : ls.length ≤ 5
      · go_enter Tryz.func51, Tryz.ntmps51
        go_wp2_with (first
          | (go_at_call 87; refine (cut_pre _ _ _).mono ?_; rintro e w' ⟨rfl, rfl⟩)
          | (go_at_call 88; refine (hsp _ hm).mono ?_; rintro e w' ⟨rfl, rfl⟩))
        go_loopw [30] (fun i wr => ∃ k : Nat, k ≤ ls.length ∧ i = .int .i64 k ∧ Own w wr [rowSs (.slice (some ⟨w.heap.size, 0, none⟩) ls.length ls.length) ls] ∧ Hid ((ls.take k).all nameL = true)) (fun i _ => ls.length - (intOf i).toNat)
        case atStart => exact ⟨0, Nat.zero_le _, rfl, by have := (Own.start w).made 9 1 (strs ls).toArray ls.length (by simp [strs]) (by unfold maxLen; omega); simpa using this, rfl⟩
        case round =>
          obtain ⟨k, hk, rfl, hO, HA⟩ := hrel
          by_cases hlt : k < ls.length
          · have hc := hO.str k hlt
            have HS := Lib.hid (all_take_succ nameL ls k hlt)
            have HF := Lib.hid (all_at_no nameL ls k hlt)
            have hl1 := HL.out ls[k] (List.getElem_mem _)
            have HC := name_list ls[k]
            generalize ls[k] = l at *
            by_cases hn : nameL l = true
            · go_wp2_with (go_at_call 89; refine (HC _ (by omega)).mono ?_; rintro e w' ⟨rfl, hb⟩)
              have hO2 := hO.later hb
              go_roundw
              case rel => exact ⟨k + 1, by omega, by go_num, hO2, by show (ls.take (k + 1)).all nameL = true; rw [HS.out, HA.out, hn]; rfl⟩
              case measure => simp [intOf]; omega
            · have hn' : nameL l = false := by simpa using hn
              clear hn
              go_wp2_with (go_at_call 89; refine (HC _ (by omega)).mono ?_; rintro e w' ⟨rfl, hb⟩)
              have hO2 := hO.later hb
              go_ret2
              exact splitPost_no (by rw [HP.out, HF.out hn']; simp) hO2.below
          · have HT := Lib.hid (show ls.take k = ls from List.take_of_length_le (by omega))
            have HE := Lib.hid (show okP s.data.toList = true from by rw [HP.out, ← HT.out, HA.out, HT.out, decide_eq_true h6]; rfl)
            have HG := Lib.hid (show SplitPost w s.data.toList (.returned (.tuple #[.slice (some ⟨w.heap.size, 0, none⟩) ls.length ls.length, .bool true])) wr from ⟨_, by rw [HE.out], by rw [HQ.out, HE.out]; exact hO⟩)
            clear HT HA HP HQ HL hO
            go_wp2
            go_ret2
            exact HG.out
      · have HN := Lib.hid (show okP s.data.toList = false from by rw [HP.out, decide_eq_false h6]; rfl)
        go_enter Tryz.func51, Tryz.ntmps51
        go_wp2_with (first
          | (go_at_call 87; refine (cut_pre _ _ _).mono ?_; rintro e w' ⟨rfl, rfl⟩)
          | (go_at_call 88; refine (hsp _ hm).mono ?_; rintro e w' ⟨rfl, rfl⟩))
        go_ret2
        exact splitPost_no HN.out ((Below.refl _ _).alloc (Nat.le_refl _) _)
    · have HN := Lib.hid (okP_no_pre h1l (.inr (by omega)))
      clear h1l hz
      go_enter Tryz.func51, Tryz.ntmps51
      go_wp2_with (go_at_call 87; refine (cut_pre _ _ _).mono ?_; rintro e w' ⟨rfl, rfl⟩)
      go_ret2
      exact splitPost_no HN.out (Below.refl _ _)
  · have h2' : Lib.hasPrefix s.data.toList [47] = false := by simpa using h2
    have HN := Lib.hid (okP_no_pre h1l (.inl h2'))
    clear h1l hz
    go_enter Tryz.func51, Tryz.ntmps51
    go_wp2_with (go_at_call 87; refine (cut_pre _ _ _).mono ?_; rintro e w' ⟨rfl, rfl⟩)
    go_ret2
    exact splitPost_no HN.out (Below.refl _ _)
end Go.Proofs.YtnjabanjgckeoaaGreatDoor
end

/- 'Join', 'Right', 'Parent' of package path. -/
section
namespace Go.Proofs.YtnjabanjgckeoaaGreatDoor
open Go.RowKit
set_option linter.unusedVariables false
set_option linter.unusedSimpArgs false

/-- A slice value that reads as these texts. -/
def Sts (w : World) (v : Value) (ls : List (List UInt8)) : Prop :=
  ∃ a c, v = .slice a ls.length c ∧ ls.length ≤ c ∧ c ≤ maxLen ∧ (0 < ls.length → ∃ b o, a = some ⟨b, o, none⟩ ∧ b < w.heap.size ∧ ∀ (j : Nat) (h : j < ls.length), w.cell? ⟨b, o + j, none⟩ = some (.string (toB ls[j])))
theorem Sts.later {w w' : World} {v : Value} {ls : List (List UInt8)} (h : Sts w v ls) (hb : Below w.heap.size w w') : Sts w' v ls := by
  obtain ⟨a, c, h1, h2, h3, h4⟩ := h
  refine ⟨a, c, h1, h2, h3, fun hn => ?_⟩
  obtain ⟨b, o, h5, h6, h7⟩ := h4 hn
  exact ⟨b, o, h5, Nat.lt_of_lt_of_le h6 hb.size, fun j hj => by rw [hb.cell (p := ⟨b, o + j, none⟩) h6]; exact h7 j hj⟩
theorem Own.sts {W0 : Base} {w : World} {v : Value} {ls : List (List UInt8)} {L : List Rw} (h : Own W0 w (rowSs v ls :: L)) : Sts w v ls := by
  by_cases hn : 0 < ls.length
  · obtain ⟨g, cap, h1, h2, h3⟩ := h.form hn
    obtain ⟨a, c, h4, h5, h6⟩ := h.sized
    rw [h1] at h4
    injection h4 with e1 e2 e3
    subst h1
    refine ⟨_, cap, rfl, by omega, by omega, fun _ => ⟨g, 0, rfl, by omega, fun j hj => ?_⟩⟩
    rw [Nat.zero_add]; exact h.str j hj
  · obtain ⟨a, c, h4, h5, h6⟩ := h.sized
    exact ⟨a, c, h4, h5, h6, fun h => absurd h hn⟩
theorem Sts.take {w : World} {a : Option Addr} {n c : Nat} {ls : List (List UInt8)} (h : Sts w (.slice a n c) ls) (k : Nat) (hk : k ≤ ls.length) : Sts w (.slice a k c) (ls.take k) := by
  obtain ⟨a', c', h1, h2, h3, h4⟩ := h
  injection h1 with e1 e2 e3
  subst e1 e3
  have hl : (ls.take k).length = k := by rw [List.length_take]; omega
  refine ⟨a, c, by rw [hl], by omega, h3, fun hn => ?_⟩
  obtain ⟨b, o, h5, h6, h7⟩ := h4 (by omega)
  refine ⟨b, o, h5, h6, fun j hj => ?_⟩
  rw [h7 j (by omega), List.getElem_take]

/-- The path of names. -/
def joinL (ls : List (List UInt8)) : List UInt8 := 47 :: Lib.join ls [47]
theorem join_len (ls : List (List UInt8)) (m : Nat) (h : ∀ l ∈ ls, l.length ≤ m) : (Lib.join ls [47]).length ≤ ls.length * (m + 1) := by
  cases ls with
  | nil => simp [Lib.join_nil]
  | cons x r =>
    rw [Lib.join_cons]
    have h1 := h x (List.mem_cons_self ..)
    have h2 : (Lib.joinTail [47] r).length ≤ r.length * (m + 1) := by
      have hr : ∀ l ∈ r, l.length ≤ m := fun l hl => h l (List.mem_cons_of_mem _ hl)
      clear h h1
      induction r with
      | nil => simp [Lib.joinTail]
      | cons y r ih =>
        have := ih (fun l hl => hr l (List.mem_cons_of_mem _ hl))
        have hy := hr y (List.mem_cons_self ..)
        simp only [Lib.joinTail, List.map_cons, List.flatten_cons, List.length_append, List.length_singleton] at this ⊢
        rw [List.length_cons, Nat.add_mul]; omega
    rw [List.length_append, List.length_cons, Nat.add_mul]; omega
theorem join_size (ls : List (List UInt8)) (m : Nat) (h : ∀ l ∈ ls, l.length ≤ m) (hm : m ≤ 1000) (hn : ls.length ≤ 1000) : (Lib.join ls [47]).length ≤ 1001000 := by
  have h1 := join_len ls m h
  have h2 : ls.length * (m + 1) ≤ 1000 * 1001 := Nat.mul_le_mul hn (by omega)
  omega
theorem strings_join (v : Value) (ls : List (List UInt8)) (w : World) (h : Sts w v ls) (hs : (Lib.join ls [47]).length ≤ 1001000) (hn : ls.length ≤ 1000) :
    Calls Tryz.prog 263 #[v, .string ⟨#[47]⟩] w fun e w' => e = .returned (.string (toB (Lib.join ls [47]))) ∧ Below w.heap.size w w' := by
  obtain ⟨a, c, h1, h2, h3, h4⟩ := h
  subst h1
  cases ls with
  | nil =>
    refine (Tryz.strings_Join_none a c ⟨#[47]⟩ w).mono ?_
    rintro e w' ⟨rfl, rfl⟩
    exact ⟨rfl, Below.refl _ _⟩
  | cons x r =>
    obtain ⟨b, o, h5, h6, h7⟩ := h4 (by simp)
    subst h5
    have hm : ((x :: r).map toB).map (·.data.toList) = x :: r := by
      rw [List.map_map]; exact List.map_id' _
    have hc := Tryz.strings_Join b o c ((x :: r).map toB) ⟨#[47]⟩ w (fun j y hj => by
      rw [List.getElem?_map] at hj
      obtain ⟨z, hz, rfl⟩ := Option.map_eq_some_iff.1 hj
      obtain ⟨hj2, rfl⟩ := List.getElem?_eq_some_iff.1 hz
      exact h7 j hj2) h6 (by rw [List.length_map]; omega) (by rw [List.length_map]; exact h2) (by rw [hm]; show (Lib.join (x :: r) [47]).length ≤ _; omega)
    rw [List.length_map, hm] at hc
    exact hc
theorem join_any (v : Value) (ls : List (List UInt8)) (w : World) (h : Sts w v ls) (hs : (Lib.join ls [47]).length ≤ 1001000) (hn : ls.length ≤ 1000) :
    Calls Tryz.prog 240 #[v] w fun e w' => e = .returned (.string (toB (joinL ls))) ∧ Below w.heap.size w w' := by
  have hj := strings_join v ls w h hs hn
  have HE := Lib.hid (show (⟨#[47]⟩ : ByteArray) ++ toB (Lib.join ls [47]) = toB (joinL ls) from by
    apply ByteArray.ext; simp [joinL])
  obtain ⟨a, c, h1, h2, h3, h4⟩ := h
  subst h1
  clear h4 h2 h3
  generalize hX : Lib.join ls [47] = X at *
  clear hX
  go_enter Tryz.func240, Tryz.ntmps240
  go_wp2_with (go_at_call 263; refine hj.mono ?_; rintro e w' ⟨rfl, hb⟩)
  go_ret
  exact ⟨by rw [HE.out]; rfl, hb⟩

theorem names_bounds (l : List UInt8) : (namesL l).length ≤ 5 ∧ ∀ n ∈ namesL l, nameL n = true := by
  unfold namesL
  split
  · simp
  · rename_i h1
    split
    · rename_i h2
      unfold okP at h2
      rw [decide_eq_false h1] at h2
      simp only [Bool.false_or, Bool.and_eq_true, decide_eq_true_eq, List.all_eq_true] at h2
      exact ⟨h2.1.2, h2.2⟩
    · simp
theorem name_len {n : List UInt8} (h : nameL n = true) : 1 ≤ n.length ∧ n.length ≤ 12 := by
  unfold nameL at h
  simp only [Bool.and_eq_true, decide_eq_true_eq] at h
  exact ⟨h.1.1, h.1.2.1⟩
theorem parent_no (s : ByteArray) (w : World) (hs : s.size ≤ maxLen) (hm : Mx w) (h0 : namesL s.data.toList = []) : Calls Tryz.prog 194 #[.string s] w fun e w' => e = .returned (.tuple #[.string ⟨#[]⟩, .string ⟨#[]⟩, .bool false]) ∧ Below w.heap.size w w' := by
  have hc := split_any s w hs hm
  generalize s.data.toList = l at *
  have H0 := Lib.hid h0
  clear h0
  go_enter Tryz.func194, Tryz.ntmps194
  go_wp2_with fail
  refine hc.mono ?_
  rintro e w' ⟨v, rfl, hO⟩
  obtain ⟨a, c, rfl, _, _⟩ := hO.sized
  rw [H0.out]
  have hb := hO.below
  clear hO
  go_wp2
  exact bodyPost_ret (v := .tuple #[.string ⟨#[]⟩, .string ⟨#[]⟩, .bool false]) (by simp [results, Tryz.results194, go_sem]) rfl ⟨rfl, hb⟩
theorem parent_yes (s : ByteArray) (w : World) (hs : s.size ≤ maxLen) (hm : Mx w) (ini : List (List UInt8)) (z : List UInt8) (h0 : namesL s.data.toList = ini ++ [z]) : Calls Tryz.prog 194 #[.string s] w fun e w' => e = .returned (.tuple #[.string (toB (joinL ini)), .string (toB z), .bool true]) ∧ Below w.heap.size w w' := by
  have hc := split_any s w hs hm
  generalize s.data.toList = l at *
  obtain ⟨h5, h6⟩ := names_bounds l
  rw [h0] at h5 h6
  rw [List.length_append, List.length_singleton] at h5
  have hj := join_size ini 12 (fun n hn => (name_len (h6 n (List.mem_append_left _ hn))).2) (by omega) (by omega)
  have H0 := Lib.hid h0
  have HLN := Lib.hid (show (ini ++ [z]).length = ini.length + 1 by simp)
  clear h0 h6
  go_enter Tryz.func194, Tryz.ntmps194
  go_wp2_with fail
  refine hc.mono ?_
  rintro e w1 ⟨v, rfl, hO⟩
  rw [H0.out] at hO
  obtain ⟨g, cap, hv, _, _⟩ := hO.form (by rw [HLN.out]; omega)
  obtain ⟨a, c, hv2, hc1, hc2⟩ := hO.sized
  subst hv
  injection hv2 with e1 e2 e3
  subst e3 e1
  unfold maxLen at hc2
  have hld := hO.str ini.length (by rw [HLN.out]; omega)
  rw [show (ini ++ [z])[ini.length]'(by rw [HLN.out]; omega) = z by simp] at hld
  have HO := Lib.hid hO
  have hst := fun w' (h : Own w w' [rowSs (.slice (some ⟨g, 0, none⟩) (ini ++ [z]).length cap) (ini ++ [z])]) => (h.sts).take ini.length (by rw [HLN.out]; omega)
  rw [show (ini ++ [z]).take ini.length = ini by simp] at hst
  have HS := Lib.hid hst
  have hz := fun w' (h : Own w w' [rowSs (.slice (some ⟨g, 0, none⟩) (ini ++ [z]).length cap) (ini ++ [z])]) => h.str ini.length (by rw [HLN.out]; omega)
  rw [show (ini ++ [z])[ini.length]'(by rw [HLN.out]; omega) = z by simp] at hz
  have HZ := Lib.hid hz
  rw [HLN.out] at hc1 HO HS HZ ⊢
  clear hO hst hz e2
  go_wp2_with fail
  have q1 : (0 : Int) ≤ (ini.length : Int) := by omega
  have q2 : (ini.length : Int) ≤ (cap : Int) := by omega
  have q3 : (ini.length : Int) < (ini.length : Int) + 1 := by omega
  have q4 : ini.length < ini.length + 1 := by omega
  have q5 : ini.length ≤ cap := by omega
  go_region_held3 (fun w' => w'.cell? ⟨g, ini.length, none⟩ = some (.string (toB z))) (first | assumption | go_keep) (first
    | (go_at_call 240; refine (join_any _ ini _ (HS.out _ (by first | exact HO.out.drew | exact HO.out)) hj (by omega)).mono ?_; rintro e w2 ⟨rfl, hb2⟩; have HO2 := Lib.hid (show Own w w2 [rowSs (.slice (some ⟨g, 0, none⟩) (ini.length + 1) cap) (ini ++ [z])] from (by first | exact HO.out.drew.later hb2 | exact HO.out.later hb2)); have z2 := HZ.out w2 HO2.out))
  all_goals go_wp2_with fail
  all_goals exact bodyPost_ret (v := .tuple #[.string (toB (joinL ini)), .string (toB z), .bool true]) (by simp [results, Tryz.results194, go_sem]) rfl ⟨rfl, HO2.out.below⟩
end Go.Proofs.YtnjabanjgckeoaaGreatDoor
end

/- A tree in memory: its nodes as a list by numbers; what stands at a path. -/
section
namespace Go.Proofs.YtnjabanjgckeoaaGreatDoor
open Go.RowKit
open Go.ChangeMaps (setBlock)
set_option linter.unusedVariables false
set_option linter.unusedSimpArgs false

/-- A node: its block, the block of what stands in it (none: a file), what stands in it, a file's bytes (as a value, and as they are), at how many paths it stands. -/
structure Nd where
  b : Nat
  k : Option Nat
  kids : List (ByteArray × Int)
  dv : Value
  data : List Int
  places : Int
def Nd.foot (n : Nd) : List Nat := n.b :: n.k.toList
def nodeCells (n : Nd) : Array Value := #[.map n.k, n.dv, .int .i64 n.places]
def kidsV (kids : List (ByteArray × Int)) : List (ByteArray × Value) := kids.map fun p => (p.1, .int .i64 p.2)
abbrev KI (i : Int) : Value := .int .i64 i
abbrev KS (s : ByteArray) : Value := .string s
theorem kindsI : Kinds Tryz.prog 3 KI := kinds_int Tryz.underlying3
theorem kindsS : Kinds Tryz.prog 9 KS := kinds_string Tryz.underlying9
structure NodeIn (h : Nat → Obj → Prop) (D : Value → List Int → Prop) (n : Nd) : Prop where
  cells : h n.b (.cells (nodeCells n) 120)
  kid : ∀ k, n.k = some k → ∃ o, h k o ∧ MapO KS o (kidsV n.kids)
  file : n.k = none → n.kids = []
  dat : D n.dv n.data
  form : ∃ a c, n.dv = .slice a n.data.length c
/-- A tree: its map's block, for how many bytes there is room, the number that comes next, its nodes. -/
structure Tr where
  bm : Nat
  quota : Int
  next : Int
  nodes : List (Int × Nd)
def nodesV (T : Tr) : List (Int × Value) := T.nodes.map fun p => (p.1, .pointer (some ⟨p.2.b, 0, none⟩))
def treeCells (T : Tr) : Array Value := #[.int .i64 T.quota, .int .i64 T.next, .map (some T.bm)]
structure TreeIn (h : Nat → Obj → Prop) (D : Value → List Int → Prop) (t : Nat) (T : Tr) : Prop where
  cells : h t (.cells (treeCells T) 124)
  map : ∃ o, h T.bm o ∧ MapO KI o (nodesV T)
  node : ∀ p ∈ T.nodes, NodeIn h D p.2
def Tr.foot (T : Tr) : List Nat := T.bm :: T.nodes.flatMap fun p => p.2.foot
theorem NodeIn.mono {h h' : Nat → Obj → Prop} {D D' : Value → List Int → Prop} {n : Nd} (H : NodeIn h D n) (hh : ∀ b o, b ∈ n.foot → h b o → h' b o) (hD : ∀ v zs, D v zs → D' v zs) : NodeIn h' D' n :=
  ⟨hh _ _ (List.mem_cons_self ..) H.cells, fun k hk => by
    obtain ⟨o, h1, h2⟩ := H.kid k hk
    exact ⟨o, hh _ _ (List.mem_cons_of_mem _ (by rw [hk]; simp)) h1, h2⟩, H.file, hD _ _ H.dat, H.form⟩
theorem TreeIn.mono {h h' : Nat → Obj → Prop} {D D' : Value → List Int → Prop} {t : Nat} {T : Tr} (H : TreeIn h D t T) (hh : ∀ b o, b ∈ t :: T.foot → h b o → h' b o) (hD : ∀ v zs, D v zs → D' v zs) : TreeIn h' D' t T := by
  obtain ⟨o, h1, h2⟩ := H.map
  refine ⟨hh _ _ (List.mem_cons_self ..) H.cells, ⟨o, hh _ _ (List.mem_cons_of_mem _ (List.mem_cons_self ..)) h1, h2⟩, fun p hp => (H.node p hp).mono (fun b o hb => hh b o ?_) hD⟩
  exact List.mem_cons_of_mem _ (List.mem_cons_of_mem _ (List.mem_flatMap.2 ⟨p, hp, hb⟩))
/-- A tree that lies in a world. -/
abbrev inW (w : World) : Nat → Obj → Prop := fun b o => w.heap[b]? = some o
abbrev inS (S : Blocks) : Nat → Obj → Prop := fun b o => (b, o) ∈ S
abbrev anyD : Value → List Int → Prop := fun _ _ => True
theorem TreeIn.later {w w' : World} {D : Value → List Int → Prop} {t : Nat} {T : Tr} (H : TreeIn (inW w) D t T) (hb : Below w.heap.size w w') : TreeIn (inW w') D t T :=
  H.mono (fun b o _ ho => (hb.block b (lt_of_heap ho)).trans ho) (fun _ _ h => h)
theorem TreeIn.inWorld {w0 w : World} {S : Blocks} {L : List Rw} {D : Value → List Int → Prop} {t : Nat} {T : Tr} (H : TreeIn (inS S) D t T) (hO : Own ⟨w0, S⟩ w L) : TreeIn (inW w) D t T :=
  H.mono (fun b o _ ho => hO.at ho) (fun _ _ h => h)
theorem look_map {α β γ : Type} [DecidableEq α] (f : β → γ) (m : List (α × β)) (a : α) : look (m.map fun p => (p.1, f p.2)) a = (look m a).map f := by
  induction m with
  | nil => rfl
  | cons p r ih =>
    simp only [List.map_cons, look]
    split
    · rfl
    · exact ih
theorem look_mem {α β : Type} [DecidableEq α] {m : List (α × β)} {a : α} {v : β} (h : look m a = some v) : (a, v) ∈ m := by
  induction m with
  | nil => cases h
  | cons p r ih =>
    unfold look at h
    split at h
    · rename_i e; injection h with h; subst e h; exact List.mem_cons_self ..
    · exact List.mem_cons_of_mem _ (ih h)
theorem zeroNode (w : World) : (zeroValue 121).run Tryz.prog w = .ok (.pointer none) w := by kernel_rfl
theorem zeroInt (w : World) : (zeroValue 3).run Tryz.prog w = .ok (.int .i64 0) w := by kernel_rfl
def ptrOf (n : Option Nd) : Value := match n with
  | some n => .pointer (some ⟨n.b, 0, none⟩)
  | none => .pointer none
theorem TreeIn.look {w : World} {D : Value → List Int → Prop} {t : Nat} {T : Tr} (H : TreeIn (inW w) D t T) (i : Int) :
    (Instr.lookup 122 (.map (some T.bm)) (.int .i64 i) false).run Tryz.prog w = .ok (ptrOf (Go.Proofs.YtnjabanjgckeoaaGreatDoor.look T.nodes i)) w := by
  obtain ⟨o, h1, h2⟩ := H.map
  have := MapO.lookup kindsI Tryz.underlying122 (zeroNode w) h2 h1 i false
  have e := look_map (fun n : Nd => Value.pointer (some ⟨n.b, 0, none⟩)) T.nodes i
  rw [show nodesV T = T.nodes.map fun p => (p.1, (fun n : Nd => Value.pointer (some ⟨n.b, 0, none⟩)) p.2) from rfl, e] at this
  rw [this]
  cases Go.Proofs.YtnjabanjgckeoaaGreatDoor.look T.nodes i <;> rfl
theorem NodeIn.look {w : World} {D : Value → List Int → Prop} {n : Nd} (H : NodeIn (inW w) D n) {k : Nat} (hk : n.k = some k) (s : ByteArray) :
    (Instr.lookup 28 (.map (some k)) (.string s) true).run Tryz.prog w = .ok (.tuple #[.int .i64 ((Go.Proofs.YtnjabanjgckeoaaGreatDoor.look n.kids s).getD 0), .bool (Go.Proofs.YtnjabanjgckeoaaGreatDoor.look n.kids s).isSome]) w := by
  obtain ⟨o, h1, h2⟩ := H.kid k hk
  have := MapO.lookup kindsS Tryz.underlying28 (zeroInt w) h2 h1 s true
  have e := look_map (fun i : Int => Value.int .i64 i) n.kids s
  rw [show kidsV n.kids = n.kids.map fun p => (p.1, (fun i : Int => Value.int .i64 i) p.2) from rfl, e] at this
  rw [this]
  cases Go.Proofs.YtnjabanjgckeoaaGreatDoor.look n.kids s <;> rfl
theorem lookup_nil (w : World) (s : ByteArray) : (Instr.lookup 28 (.map none) (.string s) true).run Tryz.prog w = .ok (.tuple #[.int .i64 0, .bool false]) w := by
  have h1 : (Instr.checkKey true 10000 9 (.string s)).run Tryz.prog w = .ok () w := kindsS.check true s w
  have h2 : (Instr.findKey 9 (.string s) []).run Tryz.prog w = .ok none w := MapKept.run_findKey (d := .string) Tryz.underlying9 rfl
  simp [Instr.lookup, run_underlying Tryz.underlying28, Sem.run_bind, Result.andThen, h1, h2, zeroInt]

/-- What stands at names, from a node on. -/
def walkT (T : Tr) (i : Int) : List (List UInt8) → Option Int
  | [] => some i
  | n :: r => match look T.nodes i with
    | none => none
    | some nd => match look nd.kids (toB n) with
      | none => none
      | some j => walkT T j r
/-- All numbers that are told are there; the root is a directory. -/
structure Good (T : Tr) : Prop where
  keys : (T.nodes.map (·.1)).Nodup
  root : ∃ n k, look T.nodes 1 = some n ∧ n.k = some k
  kids : ∀ p ∈ T.nodes, ∀ q ∈ p.2.kids, ∃ n, look T.nodes q.2 = some n
  low : ∀ p ∈ T.nodes, 1 ≤ p.1 ∧ (p.1 = 1 ∨ p.1 < T.next)
def findT (T : Tr) (l : List UInt8) : Option Int := if okP l then walkT T 1 (namesL l) else none
theorem walkT_snoc (T : Tr) (i : Int) (a : List (List UInt8)) (n : List UInt8) : walkT T i (a ++ [n]) = match walkT T i a with
    | none => none
    | some j => match look T.nodes j with
      | none => none
      | some nd => look nd.kids (toB n) := by
  induction a generalizing i with
  | nil =>
    simp only [List.nil_append, walkT]
    cases look T.nodes i with
    | none => rfl
    | some nd => cases h : look nd.kids (toB n) <;> simp [walkT, h]
  | cons x r ih =>
    simp only [List.cons_append, walkT]
    cases h1 : look T.nodes i with
    | none => rfl
    | some nd =>
      cases h2 : look nd.kids (toB x) with
      | none => simp only [h2]
      | some j => simp only [h2]; exact ih j
theorem walkT_there {T : Tr} (G : Good T) {i j : Int} (hi : ∃ n, look T.nodes i = some n) {a : List (List UInt8)} (h : walkT T i a = some j) : ∃ n, look T.nodes j = some n := by
  induction a generalizing i with
  | nil => injection h with h; subst h; exact hi
  | cons x r ih =>
    obtain ⟨n, hn⟩ := hi
    simp only [walkT, hn] at h
    cases hx : look n.kids (toB x) with
    | none => rw [hx] at h; cases h
    | some m =>
      rw [hx] at h
      exact ih (G.kids _ (look_mem hn) _ (look_mem hx)) h
end Go.Proofs.YtnjabanjgckeoaaGreatDoor
end

/- Calls that read a tree: dir, loose, Find, stands, Dir, Nodes. -/
section
namespace Go.Proofs.YtnjabanjgckeoaaGreatDoor
open Go.RowKit
open Go.ChangeMaps (setBlock)
set_option linter.unusedVariables false
set_option linter.unusedSimpArgs false
set_option maxRecDepth 100000

theorem NodeIn.at0 {w : World} {D : Value → List Int → Prop} {n : Nd} (H : NodeIn (inW w) D n) : w.cell? ⟨n.b, 0, none⟩ = some (.map n.k) ∧ w.cell? ⟨n.b, 1, none⟩ = some n.dv ∧ w.cell? ⟨n.b, 2, none⟩ = some (.int .i64 n.places) := by
  have h := H.cells
  exact ⟨by rw [cell_at h 0]; rfl, by rw [cell_at h 1]; rfl, by rw [cell_at h 2]; rfl⟩
theorem TreeIn.at0 {w : World} {D : Value → List Int → Prop} {t : Nat} {T : Tr} (H : TreeIn (inW w) D t T) : w.cell? ⟨t, 0, none⟩ = some (.int .i64 T.quota) ∧ w.cell? ⟨t, 1, none⟩ = some (.int .i64 T.next) ∧ w.cell? ⟨t, 2, none⟩ = some (.map (some T.bm)) := by
  have h := H.cells
  exact ⟨by rw [cell_at h 0]; rfl, by rw [cell_at h 1]; rfl, by rw [cell_at h 2]; rfl⟩
theorem neq_map (k : Option Nat) (w : World) : (binOp BinOp.neq 28 (.map k) (.map none)).run Tryz.prog w = .ok (.bool k.isSome) w := by
  cases k <;> kernel_rfl
theorem dir_cell {w : World} {b : Nat} {k : Option Nat} (hc : w.cell? ⟨b, 0, none⟩ = some (.map k)) : Calls Tryz.prog 134 #[.pointer (some ⟨b, 0, none⟩)] w fun e w' => e = .returned (.bool k.isSome) ∧ w = w' := by
  cases k with
  | none =>
    have hq := neq_map none w
    go_enter Tryz.func134, Tryz.ntmps134
    go_wp2
    go_ret
    exact ⟨rfl, rfl⟩
  | some k =>
    have hq := neq_map (some k) w
    go_enter Tryz.func134, Tryz.ntmps134
    go_wp2
    go_ret
    exact ⟨rfl, rfl⟩
theorem dir_any {w : World} {D : Value → List Int → Prop} {n : Nd} (H : NodeIn (inW w) D n) : Calls Tryz.prog 134 #[.pointer (some ⟨n.b, 0, none⟩)] w fun e w' => e = .returned (.bool n.k.isSome) ∧ w = w' := dir_cell H.at0.1
def Nd.loose (n : Nd) : Bool := !n.k.isSome && (n.places == 0)
theorem loose_any {w : World} {D : Value → List Int → Prop} {n : Nd} (H : NodeIn (inW w) D n) : Calls Tryz.prog 109 #[.pointer (some ⟨n.b, 0, none⟩)] w fun e w' => e = .returned (.bool n.loose) ∧ w = w' := by
  obtain ⟨c0, _, c2⟩ := H.at0
  have hd := dir_any H
  cases hk : n.k with
  | none =>
    rw [hk] at hd
    have hl : n.loose = (n.places == 0) := by unfold Nd.loose; rw [hk]; rfl
    rw [hl]
    go_enter Tryz.func109, Tryz.ntmps109
    go_wp2_with (go_at_call 134; refine hd.mono ?_; rintro e w' ⟨rfl, rfl⟩)
    go_ret
    exact ⟨rfl, rfl⟩
  | some k =>
    rw [hk] at hd
    have hl : n.loose = false := by unfold Nd.loose; rw [hk]; rfl
    rw [hl]
    go_enter Tryz.func109, Tryz.ntmps109
    go_wp2_with (go_at_call 134; refine hd.mono ?_; rintro e w' ⟨rfl, rfl⟩)
    go_ret
    exact ⟨rfl, rfl⟩
theorem nodes_any {w : World} {D : Value → List Int → Prop} {t : Nat} {T : Tr} (H : TreeIn (inW w) D t T) : Calls Tryz.prog 140 #[.pointer (some ⟨t, 0, none⟩)] w fun e w' => e = .returned (.int .i64 (T.nodes.length : Int)) ∧ w = w' := by
  obtain ⟨_, _, c2⟩ := H.at0
  obtain ⟨o, h1, h2⟩ := H.map
  have hl : ∀ ty, (Builtin.len_ #[122] ty #[.map (some T.bm)]).run Tryz.prog w = _ := fun ty => MapO.length Tryz.underlying122 h2 h1 ty
  rw [show (nodesV T).length = T.nodes.length by simp [nodesV]] at hl
  go_enter Tryz.func140, Tryz.ntmps140
  go_wp2
  go_ret
  exact ⟨rfl, rfl⟩
set_option maxHeartbeats 1000000 in
theorem find_any {w : World} {D : Value → List Int → Prop} {t : Nat} {T : Tr} (H : TreeIn (inW w) D t T) (G : Good T) (s : ByteArray) (hs : s.size ≤ maxLen) (hm : Mx w) :
    Calls Tryz.prog 14 #[.pointer (some ⟨t, 0, none⟩), .string s] w fun e w' => e = .returned (.tuple #[.int .i64 ((findT T s.data.toList).getD 0), .bool (findT T s.data.toList).isSome]) ∧ Below w.heap.size w w' := by
  have hsp := split_any s w hs hm
  generalize s.data.toList = l at *
  by_cases ho : okP l = true
  · have hf : findT T l = walkT T 1 (namesL l) := by unfold findT; rw [if_pos ho]
    rw [hf]
    obtain ⟨R, hR⟩ : ∃ R, walkT T 1 (namesL l) = R := ⟨_, rfl⟩
    have HRR := Lib.hid hR
    rw [hR]
    clear hR
    go_enter Tryz.func14, Tryz.ntmps14
    go_wp2_with fail
    refine hsp.mono ?_
    rintro e w1 ⟨v, rfl, hO⟩
    obtain ⟨a, c, rfl, hn1, hn2⟩ := hO.sized
    have hb1 := hO.below
    have H1 := Lib.hid (H.later hb1)
    have HS := Lib.hid hO.sts
    obtain ⟨_, _, c2⟩ := (H.later hb1).at0
    have hlen := (names_bounds l).1
    unfold maxLen at hn2
    clear hO hsp hf H
    rw [ho]
    generalize namesL l = ls at *
    go_wp2_with fail
    go_loop [8, 20] (fun u i => ∃ (k : Nat) (cur : Int), k ≤ ls.length ∧ i = .int .i64 k ∧ u = .int .i64 cur ∧ Hid (walkT T 1 (ls.take k) = some cur)) (fun _ i => ls.length - (intOf i).toNat)
    case atStart => exact ⟨0, 1, Nat.zero_le _, rfl, rfl, rfl⟩
    case round =>
      obtain ⟨k, cur, hk, rfl, rfl, HW⟩ := hrel
      by_cases hlt : k < ls.length
      · obtain ⟨a', c', e1, _, _, h3⟩ := HS.out
        injection e1 with e1 e2 e3
        subst e1 e3
        obtain ⟨b, o, rfl, _, hcs⟩ := h3 (by omega)
        have hc := hcs k hlt
        clear hcs
        obtain ⟨nd, hnd⟩ := walkT_there G (by obtain ⟨n, _, h, _⟩ := G.root; exact ⟨n, h⟩) HW.out
        have hlk := H1.out.look cur
        rw [hnd] at hlk
        have hN := H1.out.node _ (look_mem hnd)
        obtain ⟨d0, _, _⟩ := hN.at0
        have hsn := walkT_snoc T 1 (ls.take k) ls[k]
        rw [HW.out, ← List.take_succ_eq_append_getElem hlt] at hsn
        simp only [hnd] at hsn
        have hfull : look nd.kids (toB ls[k]) = none → walkT T 1 ls = none := fun hx => by
          have : ∀ (r a : List (List UInt8)) (i : Int), walkT T i a = none → walkT T i (a ++ r) = none := by
            intro r a
            induction a with
            | nil => intro i h; cases h
            | cons x a ih =>
              intro i h
              simp only [List.cons_append, walkT] at h ⊢
              cases h1 : look T.nodes i with
              | none => rfl
              | some n =>
                simp only [h1] at h ⊢
                cases h2 : look n.kids (toB x) with
                | none => rfl
                | some j => simp only [h2] at h ⊢; exact ih j h
          have h5 := this (ls.drop (k + 1)) (ls.take (k + 1)) 1 (by rw [hsn, hx])
          rwa [List.take_append_drop] at h5
        have HSn := Lib.hid hsn
        have HFl := Lib.hid hfull
        have hkl : (Instr.lookup 28 (.map nd.k) (.string (toB ls[k])) true).run Tryz.prog w1 = .ok (.tuple #[.int .i64 ((look nd.kids (toB ls[k])).getD 0), .bool (look nd.kids (toB ls[k])).isSome]) w1 := by
          cases hkk : nd.k with
          | none => rw [hN.file hkk]; exact lookup_nil w1 _
          | some kb => exact hN.look hkk _
        clear hsn hfull h3 hN hnd
        generalize hL : look nd.kids (toB ls[k]) = lk at *
        generalize ls[k] = x at *
        clear hL
        dsimp only [ptrOf] at hlk
        cases lk with
        | none =>
          have HX := Lib.hid (HFl.out rfl)
          clear HFl HSn HW
          dsimp only [Option.getD_none, Option.isSome_none] at hkl
          go_wp2_with fail
          go_ret2
          exact ⟨by rw [← HRR.out, HX.out]; rfl, hb1⟩
        | some j =>
          clear HFl
          dsimp only [Option.getD_some, Option.isSome_some] at hkl
          go_wp2_with fail
          go_round
          case rel => exact ⟨k + 1, j, by omega, by go_num, rfl, HSn⟩
          case measure => simp [intOf]; omega
      · have HT := Lib.hid (show walkT T 1 ls = some cur by have := HW.out; rwa [List.take_of_length_le (by omega)] at this)
        clear HW
        go_wp2_with fail
        go_ret2
        exact ⟨by rw [← HRR.out, HT.out]; rfl, hb1⟩
  · have ho' : okP l = false := by simpa using ho
    have hf : findT T l = none := by unfold findT; rw [if_neg ho]
    rw [hf]
    clear ho hf
    go_enter Tryz.func14, Tryz.ntmps14
    go_wp2_with fail
    refine hsp.mono ?_
    rintro e w1 ⟨v, rfl, hO⟩
    obtain ⟨a, c, rfl, hn1, hn2⟩ := hO.sized
    have hb1 := hO.below
    rw [ho']
    clear hO
    go_wp2_with fail
    go_ret2
    exact ⟨rfl, hb1⟩
end Go.Proofs.YtnjabanjgckeoaaGreatDoor
end
