/- The document's example: its operations. -/
import Derived.Test.YtamkfadammlhbaaGreatDoorTree33
import Derived.Lib.SmallJoins
namespace Go.Proofs.YtamkfadammlhbaaGreatDoor
open Go.RowKit
open Go.ChangeMaps (setBlock)
set_option linter.unusedVariables false
set_option linter.unusedSimpArgs false
set_option maxRecDepth 100000

theorem conv_const (W : World) (C : Array Value) (n c : Nat) : Sem.run Tryz.prog (convert 36 36 (.slice (some ⟨W.heap.size, 0, none⟩) n c)) (W.alloc (.cells C 5)) = .ok (.slice (some ⟨W.heap.size, 0, none⟩) n c) (W.alloc (.cells C 5 (C.size, C.size + 1))) := Lib.run_convert_bytes_const W 36 5 C n c Tryz.underlying36 Tryz.underlying5
theorem one_byts : Byts one := by unfold one Byts; decide
theorem two_byts : Byts two := by unfold two Byts; decide
abbrev bytesAt (b : Nat) : Value := .slice (some ⟨b, 0, none⟩) 3 3
abbrev litO (a b c : Int) : Obj := .cells #[.int .u8 a, .int .u8 b, .int .u8 c] 5 (3, 4)
theorem op_none {w0 : World} {S : Blocks} {L : List Rw} (k : Int) (p q : ByteArray) (hp : p.size ≤ 1000) (hq : q.size ≤ 1000) : OpIn w0 S L ⟨k, p, q, none, 0, 0⟩ ⟨k, p.data.toList, q.data.toList, []⟩ :=
  ⟨rfl, rfl, rfl, by unfold maxLen; show p.size ≤ _; omega, by unfold maxLen; show q.size ≤ _; omega, rfl, .inl (Pc.nil L)⟩
theorem op_bytes {w0 : World} {S : Blocks} {L : List Rw} (k : Int) (p q : ByteArray) (hp : p.size ≤ 1000) (hq : q.size ≤ 1000) {a : Option Addr} {n c : Nat} {zs : List Int} (hn : n = zs.length) (hd : Byo w0 S [] L (.slice a n c) zs) : OpIn w0 S L ⟨k, p, q, a, n, c⟩ ⟨k, p.data.toList, q.data.toList, zs⟩ :=
  ⟨rfl, rfl, rfl, by unfold maxLen; show p.size ≤ _; omega, by unfold maxLen; show q.size ≤ _; omega, hn, hd⟩
theorem Live.lit {w0 w : World} {L : List Rw} {t : Nat} {E : Et} (h : Live w0 L t E w) (o : Obj) : ∃ S L' T, Own ⟨w0, (w.heap.size, o) :: S⟩ (w.alloc o) L' ∧ (∀ x ∈ L, x ∈ L') ∧ Tree ((w.heap.size, o) :: S) (Pc L') t T ∧ Rep T E := by
  obtain ⟨S, L', T, h1, h2, h3, h4⟩ := h
  exact ⟨S, L', T, h1.newB o, h2, h3.mono (fun b x _ hx => List.mem_cons_of_mem _ hx) (fun _ _ h => h), h4⟩
/-- The first three operations. -/
theorem alive_do1 {w w1 : World} {t : Nat} (hm : Mx w) (h : Live w [] t (E0 10) w1) :
    Calls Tryz.prog 14 #[.pointer (some ⟨t, 0, none⟩), .slice (some ⟨w1.heap.size + 1, 0, none⟩) 3 3] ((w1.alloc (litO 111 110 101)).alloc (.cells #[.int .i64 0, .string (toB pA), .string ⟨#[]⟩, .slice none 0 0, .int .i64 2, .string (toB pAF), .string ⟨#[]⟩, bytesAt w1.heap.size, .int .i64 4, .string (toB pAF), .string (toB pG), .slice none 0 0] 38))
      fun e w' => e = .returned (.int .i64 0) ∧ Live w [] t EA1 w' := by
  obtain ⟨S, L', T, h1, h2, h3, h4⟩ := h.lit (litO 111 110 101)
  have hb : Byo w ((w1.heap.size, litO 111 110 101) :: S) [] L' (bytesAt w1.heap.size) one := .inr (.inr ⟨w1.heap.size, _, _, _, List.mem_cons_self .., (by simp), rfl, rfl, one_byts, by decide⟩)
  have hd := do_lit h1 h3 h4 hm [⟨0, toB pA, ⟨#[]⟩, none, 0, 0⟩, ⟨2, toB pAF, ⟨#[]⟩, some ⟨w1.heap.size, 0, none⟩, 3, 3⟩, ⟨4, toB pAF, toB pG, none, 0, 0⟩]
    [⟨0, pA, [], []⟩, ⟨2, pAF, [], one⟩, ⟨4, pAF, pG, []⟩] #[.int .i64 0, .string (toB pA), .string ⟨#[]⟩, .slice none 0 0, .int .i64 2, .string (toB pAF), .string ⟨#[]⟩, bytesAt w1.heap.size, .int .i64 4, .string (toB pAF), .string (toB pG), .slice none 0 0] rfl 3 rfl (by show 3 ≤ 1000000; decide)
    (fun i hi => by
      match i, hi with
      | 0, _ => exact op_none 0 (toB pA) ⟨#[]⟩ (by decide) (by decide)
      | 1, _ => exact op_bytes 2 (toB pAF) ⟨#[]⟩ (by decide) (by decide) rfl hb
      | 2, _ => exact op_none 4 (toB pAF) (toB pG) (by decide) (by decide)
      | n + 3, h => exact absurd h (by simp))
    alive1 (by decide) (by decide) (by decide) (by decide) (by decide)
  rw [show (w1.alloc (litO 111 110 101)).heap.size = w1.heap.size + 1 by simp] at hd
  exact hd.mono fun e w' h => ⟨h.1, h.2.less fun x hx => by cases hx⟩
theorem alive_do2 {w w1 : World} {t : Nat} (hm : Mx w) (h : Live w [] t EA1 w1) :
    Calls Tryz.prog 14 #[.pointer (some ⟨t, 0, none⟩), .slice (some ⟨w1.heap.size + 1, 0, none⟩) 2 2] ((w1.alloc (litO 116 119 111)).alloc (.cells #[.int .i64 2, .string (toB pH), .string ⟨#[]⟩, bytesAt w1.heap.size, .int .i64 5, .string (toB pH), .string (toB pAF), .slice none 0 0] 38))
      fun e w' => e = .returned (.int .i64 0) ∧ Live w [] t EA2 w' := by
  obtain ⟨S, L', T, h1, h2, h3, h4⟩ := h.lit (litO 116 119 111)
  have hb : Byo w ((w1.heap.size, litO 116 119 111) :: S) [] L' (bytesAt w1.heap.size) two := .inr (.inr ⟨w1.heap.size, _, _, _, List.mem_cons_self .., (by simp), rfl, rfl, two_byts, by decide⟩)
  have hd := do_lit h1 h3 h4 hm [⟨2, toB pH, ⟨#[]⟩, some ⟨w1.heap.size, 0, none⟩, 3, 3⟩, ⟨5, toB pH, toB pAF, none, 0, 0⟩]
    [⟨2, pH, [], two⟩, ⟨5, pH, pAF, []⟩] #[.int .i64 2, .string (toB pH), .string ⟨#[]⟩, bytesAt w1.heap.size, .int .i64 5, .string (toB pH), .string (toB pAF), .slice none 0 0] rfl 2 rfl (by show 2 ≤ 1000000; decide)
    (fun i hi => by
      match i, hi with
      | 0, _ => exact op_bytes 2 (toB pH) ⟨#[]⟩ (by decide) (by decide) rfl hb
      | 1, _ => exact op_none 5 (toB pH) (toB pAF) (by decide) (by decide)
      | n + 2, h => exact absurd h (by simp))
    alive2 (by decide) (by decide) (by decide) (by decide) (by decide)
  rw [show (w1.alloc (litO 116 119 111)).heap.size = w1.heap.size + 1 by simp] at hd
  exact hd.mono fun e w' h => ⟨h.1, h.2.less fun x hx => by cases hx⟩
theorem alive_do3 {w w1 : World} {L : List Rw} {t : Nat} (hm : Mx w) (h : Live w L t EA2 w1) :
    Calls Tryz.prog 14 #[.pointer (some ⟨t, 0, none⟩), .slice (some ⟨w1.heap.size, 0, none⟩) 1 1] (w1.alloc (.cells #[.int .i64 6, .string (toB pG), .string ⟨#[]⟩, .slice none 0 0] 38))
      fun e w' => e = .returned (.int .i64 0) ∧ Live w L t EA3 w' := by
  obtain ⟨S, L', T, h1, h2, h3, h4⟩ := h
  have hd := do_lit h1 h3 h4 hm [⟨6, toB pG, ⟨#[]⟩, none, 0, 0⟩] [⟨6, pG, [], []⟩] #[.int .i64 6, .string (toB pG), .string ⟨#[]⟩, .slice none 0 0] rfl 1 rfl (by show 1 ≤ 1000000; decide)
    (fun i hi => by
      match i, hi with
      | 0, _ => exact op_none 6 (toB pG) ⟨#[]⟩ (by decide) (by decide)
      | n + 1, h => exact absurd h (by simp))
    alive3 (by decide) (by decide) (by decide) (by decide) (by decide)
  exact hd.mono fun e w' h => ⟨h.1, h.2.less h2⟩
end Go.Proofs.YtamkfadammlhbaaGreatDoor
