/- A log as plain data: what lies on a disk, and what writing several sectors makes of it, whenever the power goes. -/
import Derived.Test.YtpebpchnkhbcfaaLBase
namespace Go.Proofs.Ytpebpchnkhbcfaa
open Go.RowKit
set_option linter.unusedVariables false
set_option linter.unusedSimpArgs false

/-! ### A record, and the root, as bytes in sectors -/
def roomM (n : Nat) : Nat := (n + 78) / 63
def crcI (l : List Int) : Int := ((crc l).toNat : Int)
theorem crcI_bounds (l : List Int) : 0 ≤ crcI l ∧ crcI l < 4294967296 := u32_of _
def recB (b : List Int) : List Int := le4 (crcI b) ++ (List.replicate 8 0 ++ sizedL b)
theorem recB_length (b : List Int) : (recB b).length = b.length + 16 := by
  simp [recB, sizedL, le4]
theorem zeros_byts (n : Nat) : Byts (List.replicate n 0) := fun z hz => by rw [(List.mem_replicate.1 hz).2]; decide
theorem recB_byts (b : List Int) (h : Byts b) (hl : b.length ≤ 4096) : Byts (recB b) :=
  (le4_byts _ (crcI_bounds b).1 (crcI_bounds b).2).append ((zeros_byts 8).append (sizedL_byts b h (by omega)))
def padTo (l : List Int) : List Int := l ++ List.replicate (64 - l.length) 0
theorem padTo_length (l : List Int) (h : l.length ≤ 64) : (padTo l).length = 64 := by simp [padTo]; omega
theorem padTo_byts (l : List Int) (h : Byts l) : Byts (padTo l) := h.append (zeros_byts _)
def cutB (R : List Int) (i : Nat) : List Int := padTo ((R.drop (i * 63)).take 63)
theorem cutB_length (R : List Int) (i : Nat) : (cutB R i).length = 64 := padTo_length _ (by rw [List.length_take]; omega)
theorem cutB_byts (R : List Int) (i : Nat) (h : Byts R) : Byts (cutB R i) := padTo_byts _ ((h.drop _).take _)
def layB (b : List Int) : List (List Int) := (List.range (roomM b.length)).map (cutB (recB b))
theorem layB_length (b : List Int) : (layB b).length = roomM b.length := by simp [layB]
theorem layB_sec (b : List Int) (h : Byts b) (hl : b.length ≤ 4096) : ∀ s ∈ layB b, s.length = 64 ∧ Byts s := by
  intro s hs
  obtain ⟨i, _, rfl⟩ := List.mem_map.1 hs
  exact ⟨cutB_length _ _, cutB_byts _ _ (recB_byts b h hl)⟩
def markS : ByteArray := { data := #[102, 97, 114, 114, 105, 101, 114, 32, 108, 111, 103] }
def rootH (side used : Nat) : List Int := sizedL (sb markS) ++ (le4 side ++ (le4 used ++ []))
def rootR (side used : Nat) : List Int := rootH side used ++ (le4 (crcI (rootH side used)) ++ [])
def rootB (side used : Nat) : List Int := padTo (rootR side used)
theorem rootH_length (side used : Nat) : (rootH side used).length = 23 := by simp [rootH, sizedL, le4, sb, markS]
theorem rootR_length (side used : Nat) : (rootR side used).length = 27 := by simp [rootR, rootH_length, le4]
theorem rootB_length (side used : Nat) : (rootB side used).length = 64 := padTo_length _ (by rw [rootR_length]; omega)
theorem rootH_byts (side used : Nat) (h1 : side ≤ 1) (h2 : used ≤ 4096) : Byts (rootH side used) :=
  (sizedL_byts _ (sb_byts _) (by rw [sb_length]; decide)).append ((le4_byts _ (by omega) (by omega)).append ((le4_byts _ (by omega) (by omega)).append Byts.nil))
theorem rootR_byts (side used : Nat) (h1 : side ≤ 1) (h2 : used ≤ 4096) : Byts (rootR side used) :=
  (rootH_byts side used h1 h2).append ((le4_byts _ (crcI_bounds _).1 (crcI_bounds _).2).append Byts.nil)
theorem rootB_byts (side used : Nat) (h1 : side ≤ 1) (h2 : used ≤ 4096) : Byts (rootB side used) := padTo_byts _ (rootR_byts side used h1 h2)
theorem isSec_bs (l : List Int) (h : l.length = 64) : isSec (bs l) := ⟨by rw [bs_length, h], bs_one l⟩

def secsB (recs : List (List Int)) : List (List Int) := recs.flatMap layB
theorem secsB_append (a b : List (List Int)) : secsB (a ++ b) = secsB a ++ secsB b := by simp [secsB]
theorem secsB_one (b : List Int) : secsB [b] = layB b := by simp [secsB]
def Recs (recs : List (List Int)) : Prop := ∀ b ∈ recs, Byts b ∧ b.length ≤ 4096
theorem secsB_sec (recs : List (List Int)) (h : Recs recs) : ∀ s ∈ secsB recs, s.length = 64 ∧ Byts s := by
  intro s hs
  obtain ⟨b, hb, hs⟩ := List.mem_flatMap.1 hs
  exact layB_sec b (h b hb).1 (h b hb).2 s hs
def secsV (recs : List (List Int)) : List (List Value) := (secsB recs).map bs
theorem secsV_sec (recs : List (List Int)) (h : Recs recs) : ∀ s ∈ secsV recs, isSec s := by
  intro s hs
  obtain ⟨l, hl, rfl⟩ := List.mem_map.1 hs
  exact isSec_bs l (secsB_sec recs h l hl).1
theorem secsV_length (recs : List (List Int)) : (secsV recs).length = (secsB recs).length := by simp [secsV]

/-- A log lies on these sectors. -/
structure Holds (K : List (List Value)) (h side used : Nat) (recs : List (List Int)) : Prop where
  six : 6 ≤ K.length
  most : K.length ≤ 4096
  half : h = (K.length - 2) / 2
  sides : side ≤ 1
  uses : used = (secsB recs).length
  fit : used ≤ h
  root : K[0]? = some (bs (rootB side used))
  secs : ∀ i : Nat, i < used → K[2 + side * h + i]? = (secsV recs)[i]?
  all : Recs recs

/-! ### Writing several sectors, and a flush -/
def Clean (D : Dk) : Prop := D.since = [] ∧ D.kept = D.last
def writesM : Dk → Nat → List (List Value) → Dk × Int
  | D, _, [] => flushM D
  | D, at_, s :: r => if (writeM D at_ s).2 ≠ 0 then writeM D at_ s else writesM (writeM D at_ s).1 (at_ + 1) r

/-- Writes one behind the other, none of them kept for sure. -/
structure Dirty (D : Dk) (K : List (List Value)) (at_ : Nat) (ws : List (List Value)) : Prop where
  up : D.down = false
  kept : D.kept = K
  fit : at_ + ws.length ≤ K.length
  since : D.since = ws.mapIdx fun i s => (at_ + i, s)
  len : D.last.length = K.length
  last : ∀ j, D.last[j]? = if at_ ≤ j ∧ j < at_ + ws.length then ws[j - at_]? else K[j]?
theorem Clean.dirty {D : Dk} (h : Clean D) (hd : D.down = false) (at_ : Nat) (hf : at_ ≤ D.last.length) : Dirty D D.last at_ [] :=
  ⟨hd, h.2, by simpa using hf, by rw [h.1]; rfl, rfl, fun j => by rw [if_neg (by intro h; simp at h; omega)]⟩
theorem Dirty.get {D : Dk} {K : List (List Value)} {at_ : Nat} {ws : List (List Value)} (h : Dirty D K at_ ws) (i : Nat) (hi : i < ws.length) : D.since[i]? = some (at_ + i, ws[i]) := by
  rw [h.since, List.getElem?_mapIdx, List.getElem?_eq_getElem hi]; rfl
theorem Dirty.slen {D : Dk} {K : List (List Value)} {at_ : Nat} {ws : List (List Value)} (h : Dirty D K at_ ws) : D.since.length = ws.length := by rw [h.since, List.length_mapIdx]
theorem Dirty.keptTo {D : Dk} {K : List (List Value)} {at_ : Nat} {ws : List (List Value)} (h : Dirty D K at_ ws) (keeps : Int) : ∀ (i : Nat), i ≤ ws.length → ∀ j, (keptTo D keeps i)[j]? = if at_ ≤ j ∧ j < at_ + i ∧ bitOf keeps (j - at_) = true then ws[j - at_]? else K[j]?
  | 0, _, j => by
    rw [if_neg (by omega)]
    show D.kept[j]? = _
    rw [h.kept]
  | i + 1, hi, j => by
    have ih := Dirty.keptTo h keeps i (by omega)
    rw [Go.Proofs.Ytpebpchnkhbcfaa.keptTo, h.get i (by omega)]
    have hl : (Go.Proofs.Ytpebpchnkhbcfaa.keptTo D keeps i).length = K.length := by rw [keptTo_length, h.kept]
    have hf := h.fit
    simp only
    by_cases hb : bitOf keeps i = true
    · rw [if_pos hb, List.getElem?_set]
      by_cases hj : at_ + i = j
      · subst hj
        rw [if_pos rfl, if_pos (by omega), if_pos ⟨by omega, by omega, by rw [Nat.add_sub_cancel_left]; exact hb⟩, Nat.add_sub_cancel_left, List.getElem?_eq_getElem (by omega)]
      · rw [if_neg hj, ih j]
        by_cases hc : at_ ≤ j ∧ j < at_ + i ∧ bitOf keeps (j - at_) = true
        · rw [if_pos hc, if_pos ⟨hc.1, by omega, hc.2.2⟩]
        · rw [if_neg hc, if_neg (fun hc' => hc ⟨hc'.1, by omega, hc'.2.2⟩)]
    · rw [if_neg hb, ih j]
      by_cases hc : at_ ≤ j ∧ j < at_ + i ∧ bitOf keeps (j - at_) = true
      · rw [if_pos hc, if_pos ⟨hc.1, by omega, hc.2.2⟩]
      · rw [if_neg hc, if_neg (fun hc' => hc ⟨hc'.1, by
          rcases Nat.lt_or_ge j (at_ + i) with h1 | h1
          · exact h1
          · exfalso
            have : j - at_ = i := by omega
            rw [this] at hc'
            exact hb hc'.2.2, hc'.2.2⟩)]
theorem Dirty.lastTo {D : Dk} {K : List (List Value)} {at_ : Nat} {ws : List (List Value)} (h : Dirty D K at_ ws) (M : List (List Value)) (hM : M.length = K.length) : ∀ (i : Nat), i ≤ ws.length → ∀ j, (lastTo M D i)[j]? = if at_ ≤ j ∧ j < at_ + i then M[j]? else D.last[j]?
  | 0, _, j => by rw [if_neg (by omega)]; rfl
  | i + 1, hi, j => by
    have ih := Dirty.lastTo h M hM i (by omega)
    rw [Go.Proofs.Ytpebpchnkhbcfaa.lastTo, h.get i (by omega)]
    have hl : (Go.Proofs.Ytpebpchnkhbcfaa.lastTo M D i).length = K.length := by rw [lastTo_length, h.len]
    have hf := h.fit
    simp only
    rw [List.getElem?_set]
    by_cases hj : at_ + i = j
    · subst hj
      rw [if_pos rfl, if_pos (by omega), if_pos ⟨by omega, by omega⟩, List.getD_eq_getElem?_getD, List.getElem?_eq_getElem (by omega)]
      rfl
    · rw [if_neg hj, ih j]
      by_cases hc : at_ ≤ j ∧ j < at_ + i
      · rw [if_pos hc, if_pos ⟨hc.1, by omega⟩]
      · rw [if_neg hc, if_neg (fun hc' => hc ⟨hc'.1, by omega⟩)]
/-- What is settled is clean. -/
theorem Dirty.settle {D : Dk} {K : List (List Value)} {at_ : Nat} {ws : List (List Value)} (h : Dirty D K at_ ws) (keeps : Int) :
    Clean (settleM D keeps) ∧ (settleM D keeps).last.length = K.length ∧ ∀ j, (settleM D keeps).last[j]? = if at_ ≤ j ∧ j < at_ + ws.length ∧ bitOf keeps (j - at_) = true then ws[j - at_]? else K[j]? := by
  have hs := h.slen
  have h1 := h.keptTo keeps ws.length (Nat.le_refl _)
  have hl : (Go.Proofs.Ytpebpchnkhbcfaa.keptTo D keeps ws.length).length = K.length := by rw [keptTo_length, h.kept]
  have h2 := h.lastTo (Go.Proofs.Ytpebpchnkhbcfaa.keptTo D keeps ws.length) hl ws.length (Nat.le_refl _)
  have he : Go.Proofs.Ytpebpchnkhbcfaa.lastTo (Go.Proofs.Ytpebpchnkhbcfaa.keptTo D keeps ws.length) D ws.length = Go.Proofs.Ytpebpchnkhbcfaa.keptTo D keeps ws.length := by
    apply List.ext_getElem?
    intro j
    rw [h2 j]
    by_cases hc : at_ ≤ j ∧ j < at_ + ws.length
    · rw [if_pos hc]
    · rw [if_neg hc, h1 j, if_neg (fun hc' => hc ⟨hc'.1, hc'.2.1⟩), h.last j, if_neg hc]
  unfold settleM
  rw [hs]
  refine ⟨⟨rfl, he.symm⟩, ?_, fun j => ?_⟩
  · show (Go.Proofs.Ytpebpchnkhbcfaa.lastTo _ D _).length = _
    rw [lastTo_length, h.len]
  · show (Go.Proofs.Ytpebpchnkhbcfaa.lastTo _ D _)[j]? = _
    rw [he, h1 j]
theorem bit_all (i : Nat) : bitOf 18446744073709551615 i = true := by
  unfold bitOf
  have h : (18446744073709551615 : Int).toNat = 2 ^ 64 - 1 := by decide
  rw [h, Nat.testBit_two_pow_sub_one]
  exact decide_eq_true (by omega)

/-- What writes make of a disk: all of it is done, or the power went. -/
structure Wrote (K : List (List Value)) (at_ : Nat) (ws : List (List Value)) (lf : Int) (D' : Dk) (e : Int) : Prop where
  clean : Clean D'
  len : D'.last.length = K.length
  left : lf = 0 → D'.left = 0 ∧ e = 0
  ends : (e = 0 ∧ D'.down = false ∧ ∀ j, D'.last[j]? = if at_ ≤ j ∧ j < at_ + ws.length then ws[j - at_]? else K[j]?) ∨
    (e = 3 ∧ D'.down = true ∧ D'.left = 0 ∧ ∀ j, D'.last[j]? = K[j]? ∨ at_ ≤ j ∧ j < at_ + ws.length ∧ D'.last[j]? = ws[j - at_]?)

theorem dirty_step {D : Dk} {K : List (List Value)} {at_ : Nat} {ws : List (List Value)} (h : Dirty D K at_ ws) (h0 : 0 ≤ D.left) :
    ((stepM D).2 = 0 ∧ Dirty (stepM D).1 K at_ ws ∧ (D.left = 0 → (stepM D).1.left = 0)) ∨ (D.left ≠ 0 ∧ (stepM D).2 = 3 ∧ Wrote K at_ ws D.left (stepM D).1 3) := by
  unfold stepM
  by_cases c0 : D.left = 0
  · rw [if_pos c0]
    exact .inl ⟨rfl, ⟨h.up, h.kept, h.fit, h.since, h.len, h.last⟩, fun _ => c0⟩
  · rw [if_neg c0]
    simp only
    by_cases c1 : 0 < D.left - 1
    · rw [if_pos c1]
      exact .inl ⟨rfl, ⟨h.up, h.kept, h.fit, h.since, h.len, h.last⟩, fun e => absurd e c0⟩
    · rw [if_neg c1]
      have h' : Dirty { D with steps := D.steps + 1, left := D.left - 1 } K at_ ws := ⟨h.up, h.kept, h.fit, h.since, h.len, h.last⟩
      obtain ⟨s1, s2, s3⟩ := h'.settle D.keeps
      refine .inr ⟨c0, rfl, s1, s2, fun e => absurd e c0, .inr ⟨rfl, rfl, rfl, fun j => ?_⟩⟩
      have := s3 j
      by_cases hc : at_ ≤ j ∧ j < at_ + ws.length ∧ bitOf D.keeps (j - at_) = true
      · rw [if_pos hc] at this
        exact .inr ⟨hc.1, hc.2.1, this⟩
      · rw [if_neg hc] at this
        exact .inl this

theorem dirty_put {D : Dk} {K : List (List Value)} {at_ : Nat} {ws : List (List Value)} (h : Dirty D K at_ ws) (s : List Value) (hf : at_ + ws.length < K.length) : Dirty (putM D (at_ + ws.length) s) K at_ (ws ++ [s]) := by
  refine ⟨h.up, h.kept, by simp; omega, ?_, ?_, fun j => ?_⟩
  · show D.since ++ [(at_ + ws.length, s)] = _
    rw [h.since, List.mapIdx_append]
    simp
  · show (D.last.set _ _).length = _
    rw [List.length_set, h.len]
  · show (D.last.set (at_ + ws.length) s)[j]? = _
    rw [List.getElem?_set, h.len, h.last j]
    by_cases hj : at_ + ws.length = j
    · subst hj
      rw [if_pos rfl, if_pos hf, if_pos (by simp), Nat.add_sub_cancel_left]
      simp
    · rw [if_neg hj]
      by_cases hc : at_ ≤ j ∧ j < at_ + ws.length
      · rw [if_pos hc, if_pos (by simp; omega), List.getElem?_append_left (by omega)]
      · rw [if_neg hc, if_neg (by simp; omega)]

theorem dirty_write {D : Dk} {K : List (List Value)} {at_ : Nat} {ws : List (List Value)} (h : Dirty D K at_ ws) (s : List Value) (hf : at_ + ws.length < K.length) : writeM D (at_ + ws.length : Nat) s = stepM (putM D (at_ + ws.length) s) := by
  have hr : refusedM D (at_ + ws.length : Nat) = 0 := by
    unfold refusedM
    rw [h.up, h.len, if_neg (by decide), if_neg (by omega)]
  unfold writeM
  rw [if_neg (by rw [hr]; decide), Int.toNat_natCast]

theorem stepM_bounds (D : Dk) : (stepM D).1.steps = D.steps + 1 ∧ (stepM D).1.since.length ≤ D.since.length ∧ ((stepM D).2 = 0 ∨ (stepM D).2 = 3) ∧ (0 ≤ D.left → 0 ≤ (stepM D).1.left) := by
  unfold stepM
  by_cases c0 : D.left = 0
  · rw [if_pos c0]; exact ⟨rfl, Nat.le_refl _, .inl rfl, fun h => h⟩
  · rw [if_neg c0]
    simp only
    by_cases c1 : 0 < D.left - 1
    · rw [if_pos c1]; exact ⟨rfl, Nat.le_refl _, .inl rfl, fun h => by show 0 ≤ D.left - 1; omega⟩
    · rw [if_neg c1]; exact ⟨rfl, Nat.zero_le _, .inr rfl, fun _ => Int.le_refl _⟩

theorem writes_dirty (r : List (List Value)) : ∀ {D : Dk} {K : List (List Value)} {at_ : Nat} {ws : List (List Value)} (lf : Int), Dirty D K at_ ws → 0 ≤ D.left → (lf = 0 → D.left = 0) → at_ + ws.length + r.length ≤ K.length →
    Wrote K at_ (ws ++ r) lf (writesM D (at_ + ws.length) r).1 (writesM D (at_ + ws.length) r).2 ∧ (writesM D (at_ + ws.length) r).1.steps ≤ D.steps + r.length + 1 ∧ D.steps ≤ (writesM D (at_ + ws.length) r).1.steps ∧ 0 ≤ (writesM D (at_ + ws.length) r).1.left := by
  induction r with
  | nil =>
    intro D K at_ ws lf h h0 hl hf
    have hb := stepM_bounds D
    rw [List.append_nil]
    unfold writesM flushM
    rw [if_neg (by rw [h.up]; decide)]
    simp only
    rcases dirty_step h h0 with ⟨e1, h2, h3⟩ | ⟨e0, e1, h2⟩
    · rw [e1, if_neg (by decide)]
      obtain ⟨s1, s2, s3⟩ := h2.settle 18446744073709551615
      refine ⟨⟨s1, s2, fun e => ⟨h3 (hl e), rfl⟩, .inl ⟨rfl, h2.up, fun j => ?_⟩⟩, ?_, ?_, ?_⟩
      · rw [s3 j]
        by_cases hc : at_ ≤ j ∧ j < at_ + ws.length
        · rw [if_pos hc, if_pos ⟨hc.1, hc.2, bit_all _⟩]
        · rw [if_neg hc, if_neg (fun hc' => hc ⟨hc'.1, hc'.2.1⟩)]
      · show (stepM D).1.steps ≤ _; simp; omega
      · show _ ≤ (stepM D).1.steps; omega
      · show 0 ≤ (stepM D).1.left; exact hb.2.2.2 h0
    · rw [e1, if_pos (by decide), e1]
      refine ⟨⟨h2.clean, h2.len, fun e => absurd (hl e) e0, h2.ends⟩, by simp; omega, by omega, hb.2.2.2 h0⟩
  | cons s r ih =>
    intro D K at_ ws lf h h0 hl hf
    simp only [List.length_cons] at hf ⊢
    have hp := dirty_put h s (by omega)
    have hw := dirty_write h s (by omega)
    have hb := stepM_bounds (putM D (at_ + ws.length) s)
    have hps : (putM D (at_ + ws.length) s).steps = D.steps := rfl
    have hpl : (putM D (at_ + ws.length) s).left = D.left := rfl
    unfold writesM
    rw [hw]
    rcases dirty_step hp h0 with ⟨e1, h2, h3⟩ | ⟨e0, e1, h2⟩
    · rw [e1, if_neg (by decide)]
      have := ih lf h2 (hb.2.2.2 h0) (fun e => h3 (hl e)) (by simp; omega)
      rw [List.append_assoc, List.singleton_append, List.length_append, List.length_singleton, ← Nat.add_assoc] at this
      exact ⟨this.1, by have := this.2.1; omega, by have := this.2.2.1; omega, this.2.2.2⟩
    · rw [e1, if_pos (by decide), e1]
      refine ⟨⟨h2.clean, h2.len, fun e => absurd (hl e) e0, .inr ?_⟩, by omega, by omega, hb.2.2.2 h0⟩
      rcases h2.ends with ⟨h4, _⟩ | ⟨_, h5, h6, h7⟩
      · cases h4
      · refine ⟨rfl, h5, h6, fun j => ?_⟩
        rcases h7 j with h8 | ⟨h8, h9, h10⟩
        · exact .inl h8
        · refine .inr ⟨h8, by simp only [List.length_append, List.length_cons, List.length_nil] at h9 ⊢; omega, ?_⟩
          rw [h10]
          have e : ws ++ s :: r = (ws ++ [s]) ++ r := by simp
          rw [e]
          exact (List.getElem?_append_left (by simp at h9 ⊢; omega)).symm

/-- Writes from a clean disk. -/
theorem writes_clean (D : Dk) (hc : Clean D) (hu : D.down = false) (h0 : 0 ≤ D.left) (at_ : Nat) (ws : List (List Value)) (hf : at_ + ws.length ≤ D.last.length) :
    Wrote D.last at_ ws D.left (writesM D at_ ws).1 (writesM D at_ ws).2 ∧ (writesM D at_ ws).1.steps ≤ D.steps + ws.length + 1 ∧ D.steps ≤ (writesM D at_ ws).1.steps ∧ 0 ≤ (writesM D at_ ws).1.left := by
  have := writes_dirty ws (ws := []) (at_ := at_) D.left (hc.dirty hu at_ (by omega)) h0 (fun e => e) (by simpa using hf)
  simpa using this
end Go.Proofs.Ytpebpchnkhbcfaa
