/- 'DiskPlays': what is kept from act to act. -/
import Derived.Test.YthmcdmnjjofehaaDNew
import Derived.Deep.QuietTactic
namespace Go.Proofs.Ythmcdmnjjofehaa
open Go.RowKit
set_option linter.unusedVariables false
set_option linter.unusedSimpArgs false

/-- The document's disk's numbers are in their bounds. -/
structure Bd (R : Rf) (i j : Nat) : Prop where
  k0 : 0 ≤ R.keeps
  k1 : R.keeps < 18446744073709551616
  s0 : 0 ≤ R.steps
  s1 : R.steps ≤ (i : Int)
  f0 : -9223372036854775808 ≤ R.fate
  f1 : R.fate ≤ 9223372036854775807
  c1 : R.cache.length ≤ j
theorem Bd.mono {R : Rf} {i j i' j' : Nat} (h : Bd R i j) (h1 : i ≤ i') (h2 : j ≤ j') : Bd R i' j' := ⟨h.k0, h.k1, h.s0, by have := h.s1; omega, h.f0, h.f1, by have := h.c1; omega⟩
theorem Bd.crash {R : Rf} {i j : Nat} (h : Bd R i j) (keeps : Int) : Bd (rfCrash R keeps) i j := ⟨Int.le_refl _, (by decide : (0 : Int) < 18446744073709551616), h.s0, h.s1, (by decide : (-9223372036854775808 : Int) ≤ -1), (by decide : (-1 : Int) ≤ 9223372036854775807), Nat.zero_le _⟩
theorem Bd.step {R : Rf} {i j : Nat} (h : Bd R i j) : Bd (rfStep R).1 (i + 1) j := by
  have h1 : Bd { R with steps := R.steps + 1 } (i + 1) j := ⟨h.k0, h.k1, by have := h.s0; show 0 ≤ R.steps + 1; omega, by have := h.s1; show R.steps + 1 ≤ ((i + 1 : Nat) : Int); omega, h.f0, h.f1, h.c1⟩
  unfold rfStep
  split
  · exact h1.crash _
  · split
    · rename_i h2 h3
      exact ⟨h1.k0, h1.k1, h1.s0, h1.s1, by show -9223372036854775808 ≤ R.fate - 1; omega, by have := h.f1; show R.fate - 1 ≤ _; omega, h1.c1⟩
    · exact h1
theorem Bd.put {R : Rf} {i : Nat} (h : Bd R i i) (at_ : Int) (s : List Value) : Bd (rfPut R at_ s).1 (i + 1) (i + 1) := by
  unfold rfPut
  split
  · exact h.mono (by omega) (by omega)
  · have h1 : Bd { R with cache := R.cache ++ [(at_.toNat, s)] } i (i + 1) := ⟨h.k0, h.k1, h.s0, h.s1, h.f0, h.f1, by have := h.c1; show (R.cache ++ _).length ≤ _; rw [List.length_append]; simp; omega⟩
    exact h1.step
theorem Bd.flush {R : Rf} {i : Nat} (h : Bd R i i) : Bd (rfFlush R).1 (i + 1) (i + 1) := by
  have hs := (h.step).mono (Nat.le_refl _) (Nat.le_succ i)
  unfold rfFlush
  split
  · exact h.mono (by omega) (by omega)
  · simp only
    split
    · exact ⟨hs.k0, hs.k1, hs.s0, hs.s1, hs.f0, hs.f1, Nat.zero_le _⟩
    · exact hs
theorem rfPut_ok (R : Rf) (h : R.Ok) (at_ : Int) (s : List Value) (hs : isSec s) (hm : R.cache.length < 1000000) : (rfPut R at_ s).1.Ok := by
  unfold rfPut
  split
  · exact h
  · rename_i h0
    have hx : at_.toNat < R.kept.length := by
      have h0' : rfRefused R at_ = 0 := by
        by_cases h1 : rfRefused R at_ = 0
        · exact h1
        · exact absurd h1 h0
      unfold rfRefused at h0'
      split at h0'
      · cases h0'
      · split at h0'
        · cases h0'
        · omega
    refine rfStep_ok _ ⟨h.pos, h.le, h.kept, fun p hp => ?_, ?_⟩
    · rcases List.mem_append.1 hp with h1 | h1
      · exact h.cache p h1
      · rw [List.mem_singleton.1 h1]; exact ⟨hx, hs⟩
    · show (R.cache ++ _).length ≤ _
      rw [List.length_append]; simp; omega
theorem rfFlush_ok (R : Rf) (h : R.Ok) : (rfFlush R).1.Ok := by
  have hs := rfStep_ok R h
  unfold rfFlush
  split
  · exact h
  · simp only
    split
    · refine ⟨?_, ?_, rfKept_sec _ hs _ _, (fun p hp => by cases hp), Nat.zero_le _⟩
      · show 0 < (rfKept _ _ _).length; rw [rfKept_length]; exact hs.pos
      · show (rfKept _ _ _).length ≤ _; rw [rfKept_length]; exact hs.le
    · exact hs
theorem flushM_by (D : Dk) (h : D.By) : (flushM D).1.By := by
  unfold flushM
  split
  · exact h
  · simp only
    split
    · exact stepM_by D h
    · exact settleM_by _ (stepM_by D h) _
theorem readM_by (D : Dk) (h : D.By) (hok : D.Ok) (at_ : Int) : byteSec (readM D at_).1 ∧ isSec (readM D at_).1 := by
  unfold readM
  split
  · exact ⟨zSec_by, zSec_sec⟩
  · rename_i h0
    have h0' : refusedM D at_ = 0 := by
      by_cases h1 : refusedM D at_ = 0
      · exact h1
      · exact absurd h1 h0
    have hx : at_.toNat < D.last.length := by
      unfold refusedM at h0'
      split at h0'
      · cases h0'
      · split at h0'
        · cases h0'
        · omega
    simp only [List.getD_eq_getElem?_getD, List.getElem?_eq_getElem hx, Option.getD_some]
    exact ⟨h.last _ (List.getElem_mem _), hok.last _ (List.getElem_mem _)⟩
theorem Rel.new (n : Nat) : Rel (newM n) (rfNew n) := by
  refine ⟨rfl, rfl, rfl, rfl, rfl, fun h => absurd h (by show ¬ (1 : Int) ≤ -1; decide), by simp [newM, rfNew], fun x hx => ?_⟩
  have hx' : x < n := by simpa [rfNew] using hx
  show (List.replicate n zSec)[x]? = some ((List.replicate n zSec).getD x [])
  rw [List.getD_eq_getElem?_getD, List.getElem?_replicate, if_pos hx']
  rfl
theorem Bd.new (n : Nat) : Bd (rfNew n) 0 0 := ⟨Int.le_refl _, (by decide : (0 : Int) < 18446744073709551616), Int.le_refl _, Int.le_refl _, (by decide : (-9223372036854775808 : Int) ≤ -1), (by decide : (-1 : Int) ≤ 9223372036854775807), Nat.zero_le _⟩
theorem wf_i64 {n : Int} (h : (Lit.int .i64 n).wf = true) : -9223372036854775808 ≤ n ∧ n ≤ 9223372036854775807 := by
  have h1 : IntKind.i64.min = -9223372036854775808 := rfl
  have h2 : IntKind.i64.max = 9223372036854775807 := rfl
  simp only [Lit.wf, Bool.and_eq_true, decide_eq_true_eq] at h
  omega
theorem wf_u64 {n : Int} (h : (Lit.int .u64 n).wf = true) : 0 ≤ n ∧ n < 18446744073709551616 := by
  have h1 : IntKind.u64.min = 0 := rfl
  have h2 : IntKind.u64.max = 18446744073709551615 := rfl
  simp only [Lit.wf, Bool.and_eq_true, decide_eq_true_eq] at h
  omega

/-! ### The disk's rows, beside the document's -/
theorem DkAt.perm {W0 w : World} {d : Nat} {D : Dk} {L L' : List Rw} (h : DkAt W0 w d D L) (hp : L.Perm L') : DkAt W0 w d D L' := by
  obtain ⟨hD, kb, lb, n, sv, hn, hO⟩ := h
  exact ⟨hD, kb, lb, n, sv, hn, hO.perm ((((hp.cons _).cons _).cons _).cons _)⟩
/-- Two rows are taken to the front; whatever becomes of them, the disk stands. -/
theorem DkAt.front {W0 w : World} {d : Nat} {D : Dk} {p q : Rw} {L : List Rw} (h : DkAt W0 w d D (p :: q :: L)) :
    ∃ M, Own W0 w (p :: q :: M) ∧ ∀ w' p' q', Own W0 w' (p' :: q' :: M) → DkAt W0 w' d D (p' :: q' :: L) := by
  obtain ⟨hD, kb, lb, n, sv, hn, hO⟩ := h
  have hp : ∀ p q : Rw, (rowsOf d kb lb sv n D (p :: q :: L)).Perm (p :: q :: rowsOf d kb lb sv n D L) := fun p q =>
    (List.perm_append_comm (l₁ := [rowD d kb lb sv n D, rowK kb n D.kept, rowK lb n D.last, rowS sv D.since]) (l₂ := [p, q])).append_right L
  exact ⟨_, hO.perm (hp p q), fun w' p' q' h' => ⟨hD, kb, lb, n, sv, hn, h'.perm (hp p' q').symm⟩⟩
theorem DkAt.drewN {W0 w : World} {d : Nat} {D : Dk} {L : List Rw} (h : DkAt W0 w d D L) (n : Nat) : DkAt W0 (w.drewN n) d D L := by
  obtain ⟨hD, kb, lb, m, sv, hn, hO⟩ := h
  exact ⟨hD, kb, lb, m, sv, hn, hO.below.trans ⟨rfl, rfl, rfl, Nat.le_refl _, fun _ _ => rfl⟩, fun p hp => hO.rows p hp, hO.apart⟩

/-- A sector that begins with b and 7. -/
def sec7 (b : Int) : List Value := .int .u8 b :: .int .u8 7 :: List.replicate 62 (.int .u8 0)
theorem sec7_sec (b : Int) : isSec (sec7 b) := ⟨rfl, by
  intro v hv
  rcases List.mem_cons.1 hv with rfl | hv
  · rfl
  · rcases List.mem_cons.1 hv with rfl | hv
    · rfl
    · rw [(List.mem_replicate.1 hv).2]; rfl⟩
theorem sec7_by (b : Int) (hb : (Lit.int .u8 b).wf = true) : byteSec (sec7 b) := fun v hv => by
  rcases List.mem_cons.1 hv with rfl | hv
  · exact ⟨b, rfl, hb⟩
  · rcases List.mem_cons.1 hv with rfl | hv
    · exact ⟨7, rfl, by decide⟩
    · exact ⟨0, (List.mem_replicate.1 hv).2, by decide⟩
theorem built7 (b : Int) : Try.prog.built 39 [(0, .int .u8 b), (1, .int .u8 7)] = some (sec7 b).toArray := by kernel_rfl
theorem built7r (b : Int) : Try.prog.built 37 [(0, .int .u8 b), (1, .int .u8 7)] = some (sec7 b).toArray := by kernel_rfl

/-- The two disks, beside each other. -/
def Both (W0 : World) (d G : Nat) (i : Nat) (X : List Rw) (D : Dk) (wr : World) : Prop :=
  ∃ a b R, DkAt W0 wr d D (rA a R.kept :: rB b R.cache :: rBox G (refCells a b R) :: X) ∧ Rel D R ∧ R.Ok ∧ Bd R i i ∧ D.By
theorem ref_put_any (W0 w : World) (a b : Value) (R : Rf) (L : List Rw) (x : Int) (s : List Value) (hs : isSec s) (h : Own W0 w (rA a R.kept :: rB b R.cache :: L)) (hR : R.Ok) (i : Nat) (hB : Bd R i i) (hi : i ≤ 200) :
    Calls Try.prog 10 #[.agg (refCells a b R).toArray, .int .i64 x, .agg s.toArray] w (PutAt W0 R x s L) := by
  by_cases hr : rfRefused R x = 0
  · have hd : R.down = false := by
      unfold rfRefused at hr
      cases hd : R.down
      · rfl
      · rw [hd] at hr; cases hr
    have hx : 0 ≤ x ∧ x < (R.kept.length : Int) := by
      unfold rfRefused at hr
      rw [hd, if_neg (by decide)] at hr
      by_cases h1 : x < 0 ∨ (R.kept.length : Int) ≤ x
      · rw [if_pos h1] at hr; cases hr
      · omega
    obtain ⟨y, rfl⟩ := Int.eq_ofNat_of_zero_le hx.1
    exact ref_put_ok W0 w a b R L y s hs h hR hd (by omega) (by have := hB.c1; omega) hB.k0 hB.k1 hB.s0 (by have := hB.s1; omega) hB.f0 hB.f1
  · exact ref_put_refused W0 w a b R L x s hs h hR hr
theorem ref_read_any (W0 w : World) (a b : Value) (R : Rf) (L : List Rw) (x : Int) (h : Own W0 w (rA a R.kept :: rB b R.cache :: L)) (hR : R.Ok) :
    Calls Try.prog 22 #[.agg (refCells a b R).toArray, .int .i64 x] w fun e w' => e = .returned (.tuple #[.agg (rfRead R x).1.toArray, .int .i64 (rfRead R x).2]) ∧ Own W0 w' (rA a R.kept :: rB b R.cache :: L) := by
  by_cases hr : rfRefused R x = 0
  · have hd : R.down = false := by
      unfold rfRefused at hr
      cases hd : R.down
      · rfl
      · rw [hd] at hr; cases hr
    have hx : 0 ≤ x ∧ x < (R.kept.length : Int) := by
      unfold rfRefused at hr
      rw [hd, if_neg (by decide)] at hr
      by_cases h1 : x < 0 ∨ (R.kept.length : Int) ≤ x
      · rw [if_pos h1] at hr; cases hr
      · omega
    obtain ⟨y, rfl⟩ := Int.eq_ofNat_of_zero_le hx.1
    have e : rfRead R y = (rfOut R y R.cache.length, 0) := by unfold rfRead; rw [if_neg (by simpa using hr), Int.toNat_natCast]
    rw [e]
    exact ref_read_ok W0 w a b R L y h hR hd (by omega)
  · exact ref_read_refused W0 w a b R L x h hR hr
end Go.Proofs.Ythmcdmnjjofehaa
