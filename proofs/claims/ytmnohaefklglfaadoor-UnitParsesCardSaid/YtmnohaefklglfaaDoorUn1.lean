/- A range over an iterator that keeps what is left to come in a captured variable: the statement's law, where the iterator turns that variable's box between two rounds. Of no program. -/
import Derived.Test.YtmnohaefklglfaaDoorKOwn
import Derived.RangeFuncNested
import Derived.RangeFuncCalls
import Derived.RangeFuncLeaves
import Derived.RangeFuncWrites
namespace Go.Proofs.YtmnohaefklglfaaDoor
open Go.RowKit
set_option linter.unusedVariables false
set_option linter.unusedSimpArgs false

section
variable {F : Fence} {n : Nat} {P : Program} {α : Type}
/-- The box's cell may be turned. -/
def Turns (b : Nat) (J : List α → World → Prop) : Prop := ∀ s V v, J s V → J s (V.setCell ⟨b, 0, none⟩ v)
/-- What a call of the iterator does, with its box at b, if the rounds leave the blocks ks as they are. -/
def Splits (F : Fence) (n : Nat) (P : Program) (gf : Nat) (lb : Array Value) (encs : α → Array Value) (ks : List Nat) (b : Nat) (Ok S Sp : List α → Prop) (N : Nat) (w : World) : Prop :=
  ∀ (l : Nat) (J Jx : List α → World → Prop) (W : World), Below w.heap.size w W → Turns b J → Turns b Jx →
    (∀ pre x V, J pre V → pre.length < N → Ok (pre ++ [x]) → YieldAt F (n - 1) P l (encs x) V fun e V' => (e = .returned (.bool true) ∧ J (pre ++ [x]) V' ∧ ∀ k ∈ ks, V'.heap[k]? = V.heap[k]?) ∨ (e = .returned (.bool false) ∧ Jx (pre ++ [x]) V')) →
    J [] W → CallsIn F n P gf (#[.func (.yield l) #[] #[]] ++ lb) W fun e V => (∃ v, e = .returned v) ∧ ((∃ xs, S xs ∧ J xs V) ∨ ∃ pre, Sp pre ∧ Jx pre V)
/-- How a round's body may be left. -/
def leftAt (B : Nat) (ks : List Nat) (I : List α → World → Prop) (Ix : Code → List α → World → Prop) (xs : List α) (W : World) : Exit → Act → World → Prop
  | .normal, _, V => (∀ k ∈ [B, B + 1], V.heap[k]? = W.heap[k]?) ∧ (∀ k ∈ ks, V.heap[k]? = W.heap[k]?) ∧ I xs V
  | .ret, _, V => (∀ k ∈ [B, B + 1], V.heap[k]? = W.heap[k]?) ∧ Ix .ret xs V
  | .exit i, _, V => (∀ k ∈ [B, B + 1], V.heap[k]? = W.heap[k]?) ∧ Ix (.exit i) xs V
  | .goto t, _, V => (∀ k ∈ [B, B + 1], V.heap[k]? = W.heap[k]?) ∧ Ix (.goto t) xs V
  | .panic _, _, _ => False
  | .outgrown, _, _ => False
theorem keep_set {V : World} {b k : Nat} (h : k ≠ b) (v : Value) : (V.setCell ⟨b, 0, none⟩ v).heap[k]? = V.heap[k]? := Below.heap_setCell _ _ _ k h
/-- The statement. -/
theorem range_box {g : Operand} {ps : Array Tmp} {assign body : Code} {Q : Exit → Act → World → Prop} {a : Act} {w : World} (hro : F.round = none) (hn : 1 ≤ n) {gf : Nat} {lb : Array Value}
    (hg : a.eval g = .func (.func gf) #[] lb) (hgf : F.fn gf) (enter : ∀ args w, (callFunc gf args).run P w = .ok (.enter gf args) w)
    {encs : α → Array Value} {ks : List Nat} {b : Nat} {Ok S Sp : List α → Prop} {N : Nat} (iter : Splits F (n - 1) P gf lb encs ks b Ok S Sp N w) (hks : ∀ k ∈ ks, k < w.heap.size) (hb : b < w.heap.size) (hps : ∀ x, (encs x).size = ps.size)
    (I : List α → World → Prop) (Ix : Code → List α → World → Prop) (hI : OwnFrom w.heap.size I) (hIx : ∀ c, OwnFrom w.heap.size (Ix c)) (tI : Turns b I) (tIx : ∀ c, Turns b (Ix c)) (start : I [] w) (act : α → Act)
    (hassign : ∀ (l : Nat) (x : α) (W : World) (K : Act → World → Prop), K (act x) W → assign.wpIn (F.inRound l) (n - 1 - 1) P (Exit.then K fun _ _ _ => False) { tmps := (ps.zip (encs x)).foldl (fun t (p, v) => t.setIfInBounds p v) a.tmps, defers := [] } W)
    (hbody : ∀ (l : Nat) (pre : List α) (x : α) (W : World), I pre W → pre.length < N → Ok (pre ++ [x]) → (∀ k ∈ [w.heap.size, w.heap.size + 1], ∃ o : Obj, W.heap[k]? = some o ∧ o.isCells = false) → body.wpIn (F.inRound l) (n - 1 - 1) P (leftAt w.heap.size ks I Ix (pre ++ [x]) W) (act x) W)
    (hdone : ∀ (D : Nat) (xs : List α) (W : World), w.heap.size ≤ D → S xs → I xs W → W.heap[D]? = some (.deferred (some [])) → Q .normal { a with defers := { target := .collected D, args := #[] } :: a.defers } W)
    (hstop : ∀ (D : Nat) (c : Code) (pre : List α) (W : World), w.heap.size ≤ D → Sp pre → Ix c pre W → W.heap[D]? = some (.deferred (some [])) → c.wpIn F n P Q { a with defers := { target := .collected D, args := #[] } :: a.defers } W) :
    (Code.rangeFunc g ps assign body).wpIn F n P Q a w := by
  refine wpIn_rangeFunc fun fn hfn => ?_
  rw [hro]
  obtain ⟨D, hD⟩ : ∃ D, D = w.heap.size := ⟨_, rfl⟩
  -- the loop's record, in one of its states
  obtain ⟨R, hR⟩ : ∃ R : LoopState → Option Code → Loop, R = fun st pe => { state := st, pending := pe, fn, tmps := a.tmps, params := ps, assign, body, defers := w.heap.size } := ⟨_, rfl⟩
  have st : ∀ x y, (R x y).state = x := fun x y => by rw [hR]
  have pe : ∀ x y, (R x y).pending = y := fun x y => by rw [hR]
  -- the two blocks of the loop's own, the record in some state
  let Two : LoopState → Option Code → World → Prop := fun x y V => V.heap[D + 1]? = some (.loop (R x y)) ∧ V.heap[D]? = some (.deferred (some []))
  have twoSet : ∀ {x y V} v, Two x y V → Two x y (V.setCell ⟨b, 0, none⟩ v) := fun v h => ⟨(keep_set (by omega) v).trans h.1, (keep_set (by omega) v).trans h.2⟩
  have twoPut : ∀ {x y V} x' y', Two x y V → Two x' y' (V.putObj (D + 1) (.loop (R x' y'))) := fun x' y' h => ⟨World.putObj_heap_same (lt_of_heap h.1), (World.putObj_heap_other (by omega)).trans h.2⟩
  have twoKeep : ∀ {x y V V'}, Two x y V → (∀ k ∈ [w.heap.size, w.heap.size + 1], V'.heap[k]? = V.heap[k]?) → Two x y V' := fun h k => ⟨(k (D + 1) (by rw [hD]; simp)).trans h.1, (k D (by rw [hD]; simp)).trans h.2⟩
  obtain ⟨W1, hW1⟩ : ∃ W1, W1 = (w.alloc (.deferred (some []))).alloc (.loop (R .ready none)) := ⟨_, rfl⟩
  have two1 : Two .ready none W1 := by
    refine ⟨?_, ?_⟩
    · rw [hW1, hD]; have := World.alloc_heap_new (w.alloc (.deferred (some []))) (.loop (R .ready none)); rwa [World.size_alloc] at this
    · rw [hW1, hD]; exact (Below.heap_alloc _ _ _ (by simp)).trans (World.alloc_heap_new w _)
  have below1 : Below w.heap.size w W1 := by rw [hW1]; exact ((Below.refl _ w).alloc (Nat.le_refl _) _).alloc (by simp) _
  have start1 : I [] W1 := by rw [hW1]; exact hI.alloc _ (hI.alloc _ start)
  have ksD : ∀ k ∈ ks, k ≠ D + 1 := fun k hk => by have := hks k hk; omega
  refine ⟨D + 1, [{ target := .collected D, args := #[] }], W1, { target := .fn (.func gf) lb, args := #[.func (.yield (D + 1)) #[] #[]] }, W1, gf, #[.func (.yield (D + 1)) #[] #[]] ++ lb, W1, ?_, ?_, ?_, ?_, fun _ => hn, ?_⟩
  · rw [hW1, hD, hR]; exact run_enterLoop_outer _ _ _ _ _
  · simp only [resolve, hg]
    simp [go_sem]
  · intro f hf
    simp [Target.leads] at hf
    exact hf ▸ hgf
  · simp [invoke, go_sem, enter]
  refine (iter (D + 1) (fun pre V => I pre V ∧ Two .ready none V) (fun pre V => ∃ c, Ix c pre V ∧ Two .done (some c) V) W1 below1 (fun s V v h => ⟨tI s V v h.1, twoSet v h.2⟩) (fun s V v h => ?_) ?round ⟨start1, two1⟩).mono ?_
  · obtain ⟨c, h1, h2⟩ := h
    exact ⟨c, tIx c s V v h1, twoSet v h2⟩
  case round =>
    intro pre x V hJ hlen hok
    obtain ⟨hi, h2⟩ := hJ
    have hy := run_yield (P := P) (args := encs x) h2.1 (by rw [hR]; exact hps x)
    rw [hR] at hy
    refine ⟨fn, _, assign, body, hy, roundIn_of_wpIn hfn (hassign _ x V _ ⟨_, run_beginRound h2.1 (st _ _), ?_⟩)⟩
    have busy : ({ R .ready none with state := .busy } : Loop) = R .busy none := by rw [hR]
    rw [busy]
    have h3 := twoPut .busy none h2
    have hi3 := hI.putObj (.loop (R .busy none)) hi (show w.heap.size ≤ D + 1 by omega) h2.1 rfl
    refine wpIn_mono (hbody _ pre x _ hi3 hlen hok fun k hk => by
      simp only [List.mem_cons, List.not_mem_nil, or_false] at hk
      rcases hk with rfl | rfl
      · rw [← hD]; exact ⟨_, h3.2, rfl⟩
      · rw [← hD]; exact ⟨_, h3.1, rfl⟩) ?_
    have ends : ∀ (jump : Option Code) (V3 : World), Two .busy none V3 → (Instr.endRound (D + 1) jump).run P V3 = .ok (.bool jump.isNone) (V3.putObj (D + 1) (.loop (R (if jump.isNone then .ready else .done) jump))) := fun jump V3 h => by
      have := run_endRound (P := P) jump h.1
      rw [hR] at this ⊢
      exact this
    rintro e a3 V3 hp
    cases e with
    | normal =>
      obtain ⟨k3, s3, i3⟩ := hp
      have h4 := twoKeep h3 k3
      exact ⟨_, _, ends none V3 h4, .inl ⟨rfl, ⟨hI.putObj _ i3 (by omega) h4.1 rfl, twoPut _ _ h4⟩, fun k hk => (World.putObj_heap_other (ksD k hk)).trans ((s3 k hk).trans (World.putObj_heap_other (ksD k hk)))⟩⟩
    | ret =>
      obtain ⟨k3, i3⟩ := hp
      have h4 := twoKeep h3 k3
      exact ⟨_, _, ends (some .ret) V3 h4, .inr ⟨rfl, _, (hIx _).putObj _ i3 (by omega) h4.1 rfl, twoPut _ _ h4⟩⟩
    | exit i =>
      obtain ⟨k3, i3⟩ := hp
      have h4 := twoKeep h3 k3
      exact ⟨_, _, ends (some (.exit i)) V3 h4, .inr ⟨rfl, _, (hIx _).putObj _ i3 (by omega) h4.1 rfl, twoPut _ _ h4⟩⟩
    | goto t =>
      obtain ⟨k3, i3⟩ := hp
      have h4 := twoKeep h3 k3
      exact ⟨_, _, ends (some (.goto t)) V3 h4, .inr ⟨rfl, _, (hIx _).putObj _ i3 (by omega) h4.1 rfl, twoPut _ _ h4⟩⟩
    | panic ch => exact hp.elim
    | outgrown => exact hp.elim
  rintro e V ⟨⟨v, rfl⟩, ⟨xs, hS, hi, h2⟩ | ⟨pre, hS, c, hi, h2⟩⟩
  · have he := run_endLoop (P := P) h2.1 (by rw [st]; simp)
    rw [pe] at he
    exact ⟨none, _, he, hdone D xs _ (by omega) hS (hI.putObj _ hi (by omega) h2.1 rfl) ((World.putObj_heap_other (by omega)).trans h2.2)⟩
  · have he := run_endLoop (P := P) h2.1 (by rw [st]; simp)
    rw [pe] at he
    exact ⟨some c, _, he, hstop D c pre _ (by omega) hS ((hIx c).putObj _ hi (by omega) h2.1 rfl) ((World.putObj_heap_other (by omega)).trans h2.2)⟩
end
end Go.Proofs.YtmnohaefklglfaaDoor
