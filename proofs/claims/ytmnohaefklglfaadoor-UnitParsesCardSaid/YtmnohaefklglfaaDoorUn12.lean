/- The text that says a unit. -/
import Derived.Test.YtmnohaefklglfaaDoorUn11
namespace Go.Proofs.YtmnohaefklglfaaDoor
open Go.RowKit
set_option linter.unusedVariables false
set_option linter.unusedSimpArgs false
set_option maxRecDepth 100000

def linesW (x : List UInt8) (l : List (List UInt8)) : List UInt8 := (l.map (lineT x)).flatten
def bodyT : List (List UInt8) → List (List (List UInt8)) → List UInt8
  | x :: r, l :: s => linesW x l ++ bodyT r s
  | _, _ => []
def textT (name : List UInt8) (ls : List (List (List UInt8))) (dg : List UInt8) : List UInt8 := lineT wUnit name ++ (bodyT wordsU ls ++ lineT wRetry dg)
theorem linesW_snoc (x : List UInt8) (l : List (List UInt8)) (y : List UInt8) : linesW x (l ++ [y]) = linesW x l ++ lineT x y := by simp [linesW]
theorem bodyT_snoc : ∀ (ws : List (List UInt8)) (ls : List (List (List UInt8))) (x : List UInt8) (l : List (List UInt8)), ws.length = ls.length → bodyT (ws ++ [x]) (ls ++ [l]) = bodyT ws ls ++ linesW x l := by
  intro ws
  induction ws with
  | nil =>
    intro ls x l h
    have : ls = [] := List.eq_nil_of_length_eq_zero (by simpa using h.symm)
    subst this
    simp [bodyT]
  | cons w r ih =>
    intro ls x l h
    cases ls with
    | nil => simp at h
    | cons k s =>
      have := ih s x l (by simpa using h)
      simp [bodyT, this]
theorem linesW_len {x : List UInt8} {l : List (List UInt8)} (hx : x.length ≤ 8) (hl : ∀ y ∈ l, y.length ≤ 1000) : (linesW x l).length ≤ l.length * 1010 := by
  induction l with
  | nil => simp [linesW]
  | cons y r ih =>
    have h1 := ih fun z hz => hl z (List.mem_cons_of_mem _ hz)
    have h2 := hl y (List.mem_cons_self ..)
    have h3 : (linesW x (y :: r)).length = (lineT x y).length + (linesW x r).length := by simp [linesW]
    have h4 : (lineT x y).length = x.length + y.length + 2 := by simp [lineT]; omega
    rw [h3, h4, List.length_cons]
    omega
theorem bodyT_len : ∀ (ws : List (List UInt8)) (ls : List (List (List UInt8))), (∀ x ∈ ws, x.length ≤ 8) → (∀ l ∈ ls, l.length ≤ 12 ∧ ∀ y ∈ l, y.length ≤ 1000) → (bodyT ws ls).length ≤ ws.length * 12120 := by
  intro ws
  induction ws with
  | nil => intro ls _ _; simp [bodyT]
  | cons x r ih =>
    intro ls hx hl
    cases ls with
    | nil => simp [bodyT]
    | cons l s =>
      have h1 := ih s (fun z hz => hx z (List.mem_cons_of_mem _ hz)) fun z hz => hl z (List.mem_cons_of_mem _ hz)
      have h2 := hl l (List.mem_cons_self ..)
      have h3 := linesW_len (hx x (List.mem_cons_self ..)) h2.2
      have h4 : (bodyT (x :: r) (l :: s)).length = (linesW x l).length + (bodyT r s).length := by simp [bodyT]
      rw [h4, List.length_cons]
      have h5 : l.length * 1010 ≤ 12 * 1010 := Nat.mul_le_mul_right _ h2.1
      omega
theorem IsBuilderF_later {T e : TypeId} {B b : Nat} {bs : List Value} {w w' : World} (h : Lib.IsBuilderF T e B b bs w) (hb : Below w.heap.size w w') : Lib.IsBuilderF T e B b bs w' := by
  have one : ∀ p, Lib.BuilderAtF T e B b p bs w → Lib.BuilderAtF T e B b p bs w' := fun p ⟨h1, v, h2, h3, h4⟩ => by
    refine ⟨h1, v, (hb.block b (lt_of_heap h2)).trans h2, ?_, h4⟩
    obtain ⟨q1, q2⟩ := h3
    refine ⟨q1, q2.imp id ?_⟩
    rintro ⟨g, cap, cur, fz, a1, a2, a3, rest⟩
    exact ⟨g, cap, cur, fz, a1, a2, (hb.block g (lt_of_heap a3)).trans a3, rest⟩
  exact h.imp (one _) (one _)
theorem fresh_bd (w : World) : Lib.IsBuilderF tBd tBy w.heap.size w.heap.size (Lib.byteCells []) (w.alloc (.cells #[.pointer none, .slice none 0 0] tBd)) := by
  rcases Lib.fresh_isBuilder tBd tBy w with h | h
  · exact .inl (Lib.BuilderAtF.of h)
  · exact .inr (Lib.BuilderAtF.of h)
/-- A unit's text that is being made. -/
structure TxSt (w : World) (ub b mb rb : Nat) (cu : Array Value) (om : Obj) (l : List UInt8) (W : World) : Prop where
  bd : Lib.IsBuilderF tBd tBy b b (Lib.byteCells l) W
  below : Below w.heap.size w W
  lo : w.heap.size ≤ b
  u : W.heap[ub]? = some (.cells cu 25)
  m : W.heap[mb]? = some om
  r : W.heap[rb]? = some (.cells #[.string ⟨#[102, 105, 108, 101]⟩, .string ⟨#[97, 102, 116, 101, 114]⟩, .string ⟨#[98, 101, 102, 111, 114, 101]⟩, .string ⟨#[114, 101, 113, 117, 105, 114, 101, 115]⟩, .string ⟨#[119, 97, 110, 116, 115]⟩, .string ⟨#[112, 97, 114, 116, 111, 102]⟩] 9)
theorem TxSt.say {w W : World} {ub b mb rb : Nat} {cu : Array Value} {om : Obj} {l : List UInt8} (h : TxSt w ub b mb rb cu om l W) (hnm : ∀ c fz, om ≠ .cells c tBy fz) (hap : ub ≠ b ∧ mb ≠ b ∧ rb ≠ b) (x y : List UInt8) (hlen : l.length + x.length + y.length + 2 ≤ 10000000) :
    Calls Tryd.prog 20 #[.string (toB x), .string (toB y), .pointer (some ⟨b, 0, none⟩)] W fun e W' => e = .returned (.tuple #[]) ∧ TxSt w ub b mb rb cu om (l ++ lineT x y) W' := by
  have hbl : b ≤ W.heap.size := by
    rcases h.bd with ⟨_, v, hv, _⟩ | ⟨_, v, hv, _⟩ <;> exact Nat.le_of_lt (lt_of_heap hv)
  refine (say_any b b l x y W h.bd hlen hbl).mono fun e W' hd => ⟨hd.1, hd.2.1, h.below.trans (hd.2.2.1.mono h.lo), h.lo, ?_, ?_, ?_⟩
  · exact hd.2.2.2 _ _ h.u (fun e => hap.1 (Option.some.inj e)) (fun c fz e => by injection e with _ e2; exact absurd e2 (by decide))
  · exact hd.2.2.2 _ _ h.m (fun e => hap.2.1 (Option.some.inj e)) hnm
  · exact hd.2.2.2 _ _ h.r (fun e => hap.2.2 (Option.some.inj e)) (fun c fz e => by injection e with _ e2; exact absurd e2 (by decide))
theorem TxSt.find {w W : World} {ub b mb rb : Nat} {cu : Array Value} {om : Obj} {l : List UInt8} (h : TxSt w ub b mb rb cu om l W) (hm : MapU ub om) (j : Nat) (x : List UInt8) (hx : wordAt x = some j) :
    (Instr.lookup 45 (.map (some mb)) (.string (toB x)) false).run Tryd.prog W = .ok (.pointer (some ⟨ub, 1 + j, none⟩)) W := by
  obtain ⟨m, h1, h2⟩ := hm
  have hl := MapO.lookup kindsS Tryd.underlying45 (z := .pointer none) (by kernel_rfl) h1 h.m (toB x) false
  rw [h2, hx] at hl
  exact hl
end Go.Proofs.YtmnohaefklglfaaDoor
