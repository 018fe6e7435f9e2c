/- The document's own answer for versions: Parse. -/
import Derived.Test.YtlcepgbliblilaaDoorVe9
import Derived.Deep.LoopGhost
namespace Go.Proofs.YtlcepgbliblilaaDoor
open Go.RowKit
set_option linter.unusedVariables false
set_option linter.unusedSimpArgs false
set_option maxRecDepth 100000

/-- How far the pieces have been cut: 'done' are those so far; a piece runs from 'f' to k. -/
def VCut (d : UInt8) (l : List UInt8) (done : List (List UInt8)) (f k : Nat) : Prop :=
  (f ≤ k ∧ k ≤ l.length ∧ bits d l = done ++ glue ((l.drop f).take (k - f)) (bits d (l.drop k))) ∨ (k = l.length + 1 ∧ bits d l = done)
theorem VCut.start (d : UInt8) (l : List UInt8) : VCut d l [] 0 0 := by
  refine .inl ⟨by omega, by omega, ?_⟩
  rw [Nat.sub_self, List.take_zero, glue_nil (bits_ne d _)]; rfl
theorem VCut.mark {d : UInt8} {l : List UInt8} {done : List (List UInt8)} {f k : Nat} (h : VCut d l done f k) (hk : k < l.length) (hs : l[k] = d) : VCut d l (done ++ [(l.drop f).take (k - f)]) (k + 1) (k + 1) := by
  rcases h with ⟨h2, h3, h4⟩ | ⟨h1, _⟩
  · refine .inl ⟨by omega, hk, ?_⟩
    rw [h4, Nat.sub_self, List.take_zero, glue_nil (bits_ne d _), List.drop_eq_getElem_cons hk, hs, bits_cons, if_pos rfl]
    simp [glue]
  · omega
theorem VCut.on {d : UInt8} {l : List UInt8} {done : List (List UInt8)} {f k : Nat} (h : VCut d l done f k) (hk : k < l.length) (hs : l[k] ≠ d) : VCut d l done f (k + 1) := by
  rcases h with ⟨h2, h3, h4⟩ | ⟨h1, _⟩
  · refine .inl ⟨by omega, hk, ?_⟩
    have e : (l.drop f).take (k + 1 - f) = (l.drop f).take (k - f) ++ [l[k]] := by
      rw [show k + 1 - f = (k - f) + 1 by omega, List.take_succ_eq_append_getElem (by rw [List.length_drop]; omega), List.getElem_drop]
      congr 2; congr 1; omega
    rw [h4, e, List.drop_eq_getElem_cons hk, bits_cons, if_neg hs, glue_glue]
  · omega
theorem VCut.stop {d : UInt8} {l : List UInt8} {done : List (List UInt8)} {f k : Nat} (h : VCut d l done f k) (hk : k = l.length) : VCut d l (done ++ [(l.drop f).take (k - f)]) (k + 1) (k + 1) := by
  rcases h with ⟨h2, h3, h4⟩ | ⟨h1, _⟩
  · refine .inr ⟨by omega, ?_⟩
    rw [h4, hk, List.drop_length]
    simp [glue, bits]
  · omega
theorem VCut.piece {d : UInt8} {l : List UInt8} {done : List (List UInt8)} {f k : Nat} (h : VCut d l (done ++ [(l.drop f).take (k - f)]) (k + 1) (k + 1)) : (l.drop f).take (k - f) ∈ bits d l := by
  rcases h with ⟨_, _, h4⟩ | ⟨_, h4⟩
  · rw [h4]; simp
  · rw [h4]; simp
theorem VCut.few {d : UInt8} {l : List UInt8} {done : List (List UInt8)} {f k : Nat} (h : VCut d l done f k) (m : Nat) (hl : l.length ≤ m) : done.length ≤ m + 1 := by
  have h0 := (bits_length d l).2
  rcases h with ⟨_, _, h4⟩ | ⟨_, h4⟩
  · rw [h4, List.length_append] at h0; omega
  · rw [h4] at h0; omega
theorem VCut.ended {d : UInt8} {l : List UInt8} {done : List (List UInt8)} {f k : Nat} (h : VCut d l done f k) (hk : ¬ k ≤ l.length) : bits d l = done := by
  rcases h with ⟨_, h3, _⟩ | ⟨_, h4⟩
  · exact absurd h3 hk
  · exact h4
/-- Where the first mark stands. -/
theorem index_first {d : UInt8} : ∀ {l : List UInt8} {k : Nat} (hk : k < l.length), d ∉ l.take k → l[k] = d → Lib.index l [d] = k
  | [], k, hk, _, _ => absurd hk (by simp)
  | c :: l, 0, hk, _, hs => by rw [index_cons, if_pos (show c = d from hs)]; rfl
  | c :: l, k + 1, hk, hn, hs => by
    rw [List.take_succ_cons, List.mem_cons, not_or] at hn
    have h1 := index_first (l := l) (k := k) (by simpa using hk) hn.2 hs
    rw [index_cons, if_neg (Ne.symm hn.1), h1, if_neg (by omega)]; rfl
theorem cut_first {l : List UInt8} {k : Nat} (hk : k < l.length) (hn : (45 : UInt8) ∉ l.take k) (hs : l[k] = 45) : dashL l = true ∧ frontL l = l.take k ∧ restL l = l.drop (k + 1) := by
  have h := index_first hk hn hs
  unfold dashL frontL restL Lib.cut
  rw [h, if_pos (by omega)]
  exact ⟨rfl, rfl, rfl⟩
theorem cut_none {l : List UInt8} (hn : (45 : UInt8) ∉ l) : dashL l = false ∧ frontL l = l := by
  have h := (index_no 45 l).2 hn
  unfold dashL frontL Lib.cut
  rw [h, if_neg (by omega)]
  exact ⟨rfl, rfl⟩
theorem not_mem_succ {d : UInt8} {s : ByteArray} {k : Nat} (hk : k < s.size) (hn : d ∉ s.data.toList.take k) (h : s[k] ≠ d) : d ∉ s.data.toList.take (k + 1) := by
  rw [take_snocB s k hk, List.mem_append, List.mem_singleton, not_or]
  exact ⟨hn, Ne.symm h⟩
/-- What is known of the revision behind the first loop. -/
def RevOk (l : List UInt8) (r : Int) : Prop := dashL l = true ∧ numL (restL l) = true ∧ valN (restL l) ≠ 0 ∧ r = (valN (restL l) : Int) ∨ dashL l = false ∧ r = 0
def DashRel (s : ByteArray) (x r i : Value) : Prop :=
  (∃ k : Nat, k ≤ s.size ∧ x = .string s ∧ r = .int .i64 0 ∧ i = .int .i64 k ∧ (45 : UInt8) ∉ s.data.toList.take k) ∨
  (∃ rv : Int, x = .string (toB (frontL s.data.toList)) ∧ r = .int .i64 rv ∧ i = .int .i64 (((frontL s.data.toList).length + 1 : Nat) : Int) ∧ RevOk s.data.toList rv)
theorem DashRel.ways {s : ByteArray} {x r i : Value} (h : DashRel s x r i) : (∃ (k : Nat) (hk : k < s.size), x = .string s ∧ r = .int .i64 0 ∧ i = .int .i64 k ∧ (45 : UInt8) ∉ s.data.toList.take k) ∨ ∃ (k : Nat) (rv : Int), x = .string (toB (frontL s.data.toList)) ∧ r = .int .i64 rv ∧ i = .int .i64 k ∧ (frontL s.data.toList).length ≤ k ∧ RevOk s.data.toList rv := by
  have e := Lib.size_eq s
  rcases h with ⟨k, hk, hx, hr, hi, hn⟩ | ⟨rv, hx, hr, hi, h⟩
  · by_cases hlt : k < s.size
    · exact .inl ⟨k, hlt, hx, hr, hi, hn⟩
    · rw [List.take_of_length_le (by omega)] at hn
      obtain ⟨h1, h2⟩ := cut_none hn
      exact .inr ⟨k, 0, by rw [hx, h2], hr, hi, by rw [h2]; omega, .inr ⟨h1, rfl⟩⟩
  · exact .inr ⟨_, rv, hx, hr, hi, by omega, h⟩
theorem rightV_of {l : List UInt8} {r : Int} (h : RevOk l r) : rightV l = (decide ((bits 46 (frontL l)).length ≤ 4) && (bits 46 (frontL l)).all numL) ∧ (rightV l = true → (revV l : Int) = r ∧ numsV l = (bits 46 (frontL l)).map valN) := by
  have h1 : rightV l = (decide ((bits 46 (frontL l)).length ≤ 4) && (bits 46 (frontL l)).all numL) := by
    unfold rightV
    rcases h with ⟨a, b, c, _⟩ | ⟨a, _⟩
    · rw [a, b, decide_eq_true c]; rfl
    · rw [a]; rfl
  refine ⟨h1, fun h2 => ?_⟩
  unfold revV numsV
  rw [if_pos h2, if_pos h2]
  refine ⟨?_, rfl⟩
  rcases h with ⟨a, b, c, d⟩ | ⟨a, d⟩
  · rw [if_pos a, d]
  · rw [if_neg (by rw [a]; decide), d]; rfl
theorem byte_is (c : UInt8) (n : Nat) (d : UInt8) (hd : d.toNat = n) : ((c.toNat : Int) == (n : Int)) = decide (c = d) := by
  rw [Bool.eq_iff_iff, beq_iff_eq, decide_eq_true_iff]
  constructor
  · intro h; apply UInt8.toNat_inj.1; omega
  · rintro rfl; omega
theorem src_oneV (w : World) (u : Value) (T : TypeId) (h : u.oneCell' = true) : Src (w.alloc (.cells #[u] T)) (.slice (some ⟨w.heap.size, 0, none⟩) 1 1) 1 [u] := by
  refine .inr ⟨_, _, rfl, fun j x hj => ?_, fun x hx => by rw [List.mem_singleton.1 hx]; exact h⟩
  rw [Addr.add_mid, Nat.zero_add, World.cell?_alloc_new]
  simpa using hj
/-- What the document's Parse gives. -/
def RefPost (w : World) (l : List UInt8) (e : Ending) (w' : World) : Prop := ∃ v ns r, e = .returned (.tuple #[v, .int .i64 r, .bool (rightV l)]) ∧ Own w w' [rowN v ns] ∧ (rightV l = true → ns = numsV l ∧ r = (revV l : Int))
theorem refPost_no {w w' : World} {l : List UInt8} (h : rightV l = false) (hb : Below w.heap.size w w') : RefPost w l (.returned (.tuple #[.slice none 0 0, .int .i64 0, .bool false])) w' :=
  ⟨_, [], 0, by rw [h], (Own.of_below hb).nil 3 1, fun k => by rw [h] at k; cases k⟩
def PcRel (w : World) (f : List UInt8) (v fr i : Value) (wr : World) : Prop :=
  ∃ (done : List (List UInt8)) (a k : Nat), k ≤ f.length + 1 ∧ a ≤ k ∧ fr = .int .i64 a ∧ i = .int .i64 k ∧ done.all numL = true ∧ Own w wr [rowN v (done.map valN)] ∧ VCut 46 f done a k
theorem rowN_push {W0 : Base} {w : World} {v : Value} {done : List (List UInt8)} {p : List UInt8} {L : List Rw} (h : Own W0 w (⟨3, 1, v, done.length + 1, ((done.map valN).map fun (n : Nat) => Value.int .i64 (n : Int)) ++ [.int .i64 (valN p : Int)]⟩ :: L)) : Own W0 w (rowN v ((done ++ [p]).map valN) :: L) := by
  have e : (⟨3, 1, v, done.length + 1, ((done.map valN).map fun (n : Nat) => Value.int .i64 (n : Int)) ++ [.int .i64 (valN p : Int)]⟩ : Rw) = rowN v ((done ++ [p]).map valN) := by
    simp [rowN]
  rw [← e]; exact h
theorem ext_list (s : ByteArray) (a b : Nat) : s.extract a b = toB ((s.data.toList.drop a).take (b - a)) := by
  apply ByteArray.ext; rw [← Array.toList_inj, Lib.extract_data]
theorem ext_toB (f : List UInt8) (a b : Nat) : (toB f).extract a b = toB ((f.drop a).take (b - a)) := ext_list (toB f) a b
theorem refnum_list (l : List UInt8) (w : World) (hl : l.length ≤ 1000000) : Calls Tryd.prog 13 #[.string (toB l)] w fun e w' => e = .returned (.int .i64 (refN l)) ∧ w = w' :=
  refnum_any (toB l) w (by rw [toB_size]; unfold maxLen; omega)
end Go.Proofs.YtlcepgbliblilaaDoor
