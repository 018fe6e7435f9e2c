/- A log is written anew: in one form. -/
import Derived.Test.YtjamolajobemaaaLLive
namespace Go.Proofs.Ytjamolajobemaaa
open Go.RowKit
set_option linter.unusedVariables false
set_option linter.unusedSimpArgs false

/-- Records that have room take the place of all others, or the power goes: then all others are there, or all these. -/
theorem rewrite_yes {W0 : Base} {w : World} {l d n h side used st : Nat} {D : Dk} {recs : List (List Int)} {L : List Rw} (hA : LgAt W0 w l d D side used recs false L) (hV : Live D n h side used recs st) (hst : st ≤ 1000000000) (a : Option Addr) (c : Nat) (PS : List (Value × List Int)) (recs2 : List (List Int)) (h2 : PS.map (·.2) = recs2) (hP : ∀ w', Own W0 w' L → Parts w' a PS) (hR : Recs recs2) (hf : (secsB recs2).length ≤ h) :
    Calls Try.prog 15 #[.pointer (some ⟨l, 0, none⟩), .slice a PS.length c] w fun e w' =>
      (∃ D', e = .returned (.int .i64 0) ∧ LgAt W0 w' l d D' (1 - side) (secsB recs2).length recs2 false L ∧ Live D' n h (1 - side) (secsB recs2).length recs2 (st + 5000) ∧ (D.left = 0 → D'.left = 0)) ∨
      (∃ D', D.left ≠ 0 ∧ e = .returned (.int .i64 3) ∧ LgAt W0 w' l d D' side used recs true L ∧ Clean D' ∧ D'.down = true ∧ D'.left = 0 ∧ D'.last.length = n ∧ D'.steps ≤ (st + 5000 : Nat) ∧ (Holds D'.last h side used recs ∨ Holds D'.last h (1 - side) (secsB recs2).length recs2)) := by
  have hs := hV.steps
  have hsd := hA.sides
  have hm := hA.ok.le
  have h6 := hA.six
  have hlen := hV.len
  have hhf := hV.half
  have hhh : (D.last.length - 2) / 2 = h := by rw [hV.len]; exact hV.half.symm
  have hK := keep_anew D hV.clean hV.up hA.ok.left0 h (1 - side) recs2 h6 hm (by rw [hhh]) (by omega) hR hf
  have hks := hK.steps
  have hkl := hK.len
  have hmany : PS.length ≤ 1000000 := by
    have := recs_le recs2
    have e : recs2.length = PS.length := by rw [← h2, List.length_map]
    omega
  have hcode : (0 : Int) = refM false D.down ((D.last.length - 2) / 2) recs2 := by
    rw [hV.up, hhh]
    exact (refM_yes _ _ (fun x hx => (hR x hx).2) hf).symm
  refine rewrite_lg hA a c PS recs2 h2 hP hmany hV.clean (by omega) 0 hcode _ (fun w' h1 => absurd rfl h1) (fun w' _ h1 h2 => .inl ?_) (fun w' _ h1 h2 => .inr ?_)
  · rw [hhh] at h1 h2
    rcases hK.ends with ⟨_, k2, k3⟩ | ⟨k1, _⟩
    · exact ⟨_, rfl, h2, ⟨hK.clean, k2, hkl.trans hV.len, hV.half, by rw [Nat.zero_add] at k3; exact k3, by omega⟩, fun e => (hK.left e).1⟩
    · rw [h1] at k1; cases k1
  · rw [hhh] at h1 h2 ⊢
    rcases hK.ends with ⟨k1, _⟩ | ⟨k1, k2, k3, k4⟩
    · exact absurd k1 h1
    · refine ⟨_, fun e => h1 (hK.left e).2, by rw [k1], h2, hK.clean, k2, k3, hkl.trans hV.len, by omega, ?_⟩
      have := k4 side used recs hV.holds (.inl (by omega))
      rwa [Nat.zero_add] at this
end Go.Proofs.Ytjamolajobemaaa
