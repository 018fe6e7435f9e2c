/- What keeping records makes of a disk on which a log lies: whenever the power goes, the old ones are there, or all of the new ones. -/
import Derived.Test.YtpebpchnkhbcfaaLLog0
namespace Go.Proofs.Ytpebpchnkhbcfaa
open Go.RowKit
set_option linter.unusedVariables false
set_option linter.unusedSimpArgs false

def keepM (D : Dk) (h side used : Nat) (ws : List (List Value)) : Dk × Int :=
  if (writesM D (2 + side * h + used) ws).2 ≠ 0 then writesM D (2 + side * h + used) ws
  else writesM (writesM D (2 + side * h + used) ws).1 0 [bs (rootB side (used + ws.length))]

/-- What lies in the other half, or ahead of what is written, is as it was. -/
theorem Holds.keeps {K K' : List (List Value)} {h s u : Nat} {recs : List (List Int)} (H : Holds K h s u recs) (hl : K'.length = K.length) (h0 : K'[0]? = K[0]?) (hs : ∀ i : Nat, i < u → K'[2 + s * h + i]? = K[2 + s * h + i]?) : Holds K' h s u recs :=
  ⟨by rw [hl]; exact H.six, by rw [hl]; exact H.most, by rw [hl]; exact H.half, H.sides, H.uses, H.fit, by rw [h0]; exact H.root, fun i hi => by rw [hs i hi]; exact H.secs i hi, H.all⟩

structure Kept (K : List (List Value)) (h side used n : Nat) (recs : List (List Int)) (lf st : Int) (r : Dk × Int) : Prop where
  clean : Clean r.1
  len : r.1.last.length = K.length
  steps : r.1.steps ≤ st + n + 3
  more : st ≤ r.1.steps
  left0 : 0 ≤ r.1.left
  left : lf = 0 → r.1.left = 0 ∧ r.2 = 0
  ends : (r.2 = 0 ∧ r.1.down = false ∧ Holds r.1.last h side (used + n) recs) ∨
    (r.2 = 3 ∧ r.1.down = true ∧ r.1.left = 0 ∧ ∀ s0 u0 recs0, Holds K h s0 u0 recs0 → (s0 ≠ side ∨ u0 ≤ used) → Holds r.1.last h s0 u0 recs0 ∨ Holds r.1.last h side (used + n) recs)

theorem half_le (n : Nat) (h6 : 6 ≤ n) : 2 + 2 * ((n - 2) / 2) ≤ n ∧ 2 ≤ (n - 2) / 2 := by omega

theorem keep_spec (D : Dk) (hc : Clean D) (hu : D.down = false) (h0 : 0 ≤ D.left) (h side used : Nat) (recs : List (List Int)) (ws : List (List Value))
    (h6 : 6 ≤ D.last.length) (hm : D.last.length ≤ 4096) (hh : h = (D.last.length - 2) / 2) (hs : side ≤ 1) (hpre : ∀ i : Nat, i < used → D.last[2 + side * h + i]? = (secsV recs)[i]?)
    (hlen : used + ws.length = (secsB recs).length) (hfit : used + ws.length ≤ h) (hws : ∀ i : Nat, i < ws.length → (secsV recs)[used + i]? = ws[i]?) (hR : Recs recs) :
    Kept D.last h side used ws.length recs D.left D.steps (keepM D h side used ws) := by
  have hb := half_le D.last.length h6
  rw [← hh] at hb
  have hsh : side * h ≤ h := by
    rcases Nat.le_one_iff_eq_zero_or_eq_one.1 hs with rfl | rfl <;> omega
  obtain ⟨hW, hst1, hst2, hlf⟩ := writes_clean D hc hu h0 (2 + side * h + used) ws (by omega)
  unfold keepM
  rcases hW.ends with ⟨e1, u1, l1⟩ | ⟨e1, u1, f1, l1⟩
  · rw [e1, if_neg (by decide)]
    generalize hD1 : (writesM D (2 + side * h + used) ws).1 = D1 at *
    obtain ⟨hW2, hst3, hst4, hlf2⟩ := writes_clean D1 hW.clean u1 hlf 0 [bs (rootB side (used + ws.length))] (by rw [hW.len]; simp; omega)
    generalize hD2 : writesM D1 0 [bs (rootB side (used + ws.length))] = r at *
    simp only [List.length_singleton] at hst3
    refine ⟨hW2.clean, hW2.len.trans hW.len, by omega, by omega, hlf2, fun e => hW2.left (hW.left e).1, ?_⟩
    -- the new state, where the root is the new one
    have hnew : ∀ K' : List (List Value), K'.length = D1.last.length → K'[0]? = some (bs (rootB side (used + ws.length))) → (∀ j : Nat, 1 ≤ j → K'[j]? = D1.last[j]?) → Holds K' h side (used + ws.length) recs := by
      intro K' hl hk0 hk
      refine ⟨by rw [hl, hW.len]; exact h6, by rw [hl, hW.len]; exact hm, by rw [hl, hW.len]; exact hh, hs, hlen, hfit, hk0, fun i hi => ?_, hR⟩
      rw [hk _ (by omega), l1]
      by_cases hiu : i < used
      · rw [if_neg (by omega)]
        exact hpre i hiu
      · rw [if_pos (by omega), show 2 + side * h + i - (2 + side * h + used) = i - used from by omega, ← hws (i - used) (by omega), show used + (i - used) = i from by omega]
    have hold : ∀ K' : List (List Value), K'.length = D1.last.length → K'[0]? = D1.last[0]? → (∀ j : Nat, 1 ≤ j → K'[j]? = D1.last[j]?) → ∀ s0 u0 recs0, Holds D.last h s0 u0 recs0 → (s0 ≠ side ∨ u0 ≤ used) → Holds K' h s0 u0 recs0 := by
      intro K' hl hk0 hk s0 u0 recs0 H hor
      have hf0 := H.fit
      have hs0 := H.sides
      refine H.keeps (by rw [hl, hW.len]) ?_ ?_
      · rw [hk0, l1, if_neg (by omega)]
      · intro i hi
        rw [hk _ (by omega), l1, if_neg]
        intro hc'
        rcases hor with hne | hle
        · rcases Nat.le_one_iff_eq_zero_or_eq_one.1 hs with rfl | rfl <;> rcases Nat.le_one_iff_eq_zero_or_eq_one.1 hs0 with rfl | rfl <;> omega
        · by_cases hne : s0 = side
          · subst hne; omega
          · rcases Nat.le_one_iff_eq_zero_or_eq_one.1 hs with rfl | rfl <;> rcases Nat.le_one_iff_eq_zero_or_eq_one.1 hs0 with rfl | rfl <;> omega
    rcases hW2.ends with ⟨e2, u2, l2⟩ | ⟨e2, u2, f2, l2⟩
    · refine .inl ⟨e2, u2, hnew r.1.last hW2.len ?_ fun j hj => ?_⟩
      · rw [l2 0, if_pos (by simp)]; rfl
      · rw [l2 j, if_neg (by simp; omega)]
    · refine .inr ⟨e2, u2, f2, fun s0 u0 recs0 H hor => ?_⟩
      have hk : ∀ j : Nat, 1 ≤ j → r.1.last[j]? = D1.last[j]? := fun j hj => by
        rcases l2 j with h3 | ⟨_, h3, _⟩
        · exact h3
        · simp at h3; omega
      rcases l2 0 with h3 | ⟨_, _, h3⟩
      · exact .inl (hold r.1.last hW2.len h3 hk s0 u0 recs0 H hor)
      · exact .inr (hnew r.1.last hW2.len h3 hk)
  · rw [e1, if_pos (by decide)]
    refine ⟨hW.clean, hW.len, by omega, hst2, hlf, fun e => ⟨(hW.left e).1, (hW.left e).2⟩, .inr ⟨e1, u1, f1, fun s0 u0 recs0 H hor => .inl ?_⟩⟩
    have hf0 := H.fit
    have hs0 := H.sides
    refine H.keeps hW.len ?_ ?_
    · rcases l1 0 with h3 | ⟨h3, _, _⟩
      · exact h3
      · omega
    · intro i hi
      rcases l1 (2 + s0 * h + i) with h3 | ⟨h3, h4, _⟩
      · exact h3
      · exfalso
        rcases hor with hne | hle
        · rcases Nat.le_one_iff_eq_zero_or_eq_one.1 hs with rfl | rfl <;> rcases Nat.le_one_iff_eq_zero_or_eq_one.1 hs0 with rfl | rfl <;> omega
        · by_cases hne : s0 = side
          · subst hne; omega
          · rcases Nat.le_one_iff_eq_zero_or_eq_one.1 hs with rfl | rfl <;> rcases Nat.le_one_iff_eq_zero_or_eq_one.1 hs0 with rfl | rfl <;> omega

theorem secsV_append (a b : List (List Int)) : secsV (a ++ b) = secsV a ++ secsV b := by simp [secsV, secsB_append]
/-- A record more. -/
theorem keep_append (D : Dk) (hc : Clean D) (hu : D.down = false) (h0 : 0 ≤ D.left) (h side used : Nat) (recs : List (List Int)) (b : List Int) (H : Holds D.last h side used recs) (hb : Byts b) (hl : b.length ≤ 4096) (hf : used + roomM b.length ≤ h) :
    Kept D.last h side used (roomM b.length) (recs ++ [b]) D.left D.steps (keepM D h side used (secsV [b])) := by
  have hn : (secsV [b]).length = roomM b.length := by rw [secsV_length, secsB_one, layB_length]
  have hu' := H.uses
  have := keep_spec D hc hu h0 h side used (recs ++ [b]) (secsV [b]) H.six H.most H.half H.sides (fun i hi => by rw [H.secs i hi, secsV_append, List.getElem?_append_left (by rw [secsV_length]; omega)])
    (by rw [hn, secsB_append, List.length_append, secsB_one, layB_length]; omega) (by rw [hn]; exact hf)
    (fun i hi => by rw [secsV_append, List.getElem?_append_right (by rw [secsV_length]; omega), secsV_length, show used + i - (secsB recs).length = i from by omega])
    (fun x hx => by rcases List.mem_append.1 hx with h1 | h1; exact H.all x h1; rw [List.mem_singleton.1 h1]; exact ⟨hb, hl⟩)
  rwa [hn] at this
/-- The other half, anew. -/
theorem keep_anew (D : Dk) (hc : Clean D) (hu : D.down = false) (h0 : 0 ≤ D.left) (h side : Nat) (recs : List (List Int)) (h6 : 6 ≤ D.last.length) (hm : D.last.length ≤ 4096) (hh : h = (D.last.length - 2) / 2) (hs : side ≤ 1) (hR : Recs recs) (hf : (secsB recs).length ≤ h) :
    Kept D.last h side 0 (secsB recs).length recs D.left D.steps (keepM D h side 0 (secsV recs)) := by
  have := keep_spec D hc hu h0 h side 0 recs (secsV recs) h6 hm hh hs (fun i hi => absurd hi (by omega)) (by rw [secsV_length, Nat.zero_add]) (by rw [secsV_length]; omega) (fun i hi => by rw [Nat.zero_add]) hR
  rwa [secsV_length] at this
end Go.Proofs.Ytpebpchnkhbcfaa
