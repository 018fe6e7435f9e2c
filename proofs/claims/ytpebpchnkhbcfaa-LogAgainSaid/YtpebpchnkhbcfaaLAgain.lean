/- 'LogAgain': what its calls make of a log, and two logs on one disk. -/
import Derived.Test.YtpebpchnkhbcfaaLLong
import Derived.Test.YtpebpchnkhbcfaaLOpenOps
namespace Go.Proofs.Ytpebpchnkhbcfaa
open Go.RowKit
set_option linter.unusedVariables false
set_option linter.unusedSimpArgs false

/-- A record of few bytes under a disk that plans nothing: it is kept, or there is no room for it. -/
theorem append_try {W0 : Base} {w : World} {l d n h side used st : Nat} {D : Dk} {recs : List (List Int)} {L : List Rw} (hA : LgAt W0 w l d D side used recs false L) (hV : Live D n h side used recs st) (hst : st ≤ 1000000000) (h0 : D.left = 0) (v : Value) (b : List Int) (hb : ∀ w', Own W0 w' L → By w' v b) (hl : b.length ≤ 300) :
    Calls Try.prog 10 #[.pointer (some ⟨l, 0, none⟩), v] w fun e w' => ∃ (code : Int) (D' : Dk) (used' : Nat) (recs' : List (List Int)), e = .returned (.int .i64 code) ∧ LgAt W0 w' l d D' side used' recs' false L ∧ Live D' n h side used' recs' (st + 100) ∧ D'.left = 0 := by
  have hfit : used ≤ h := by have := hA.fit; rw [hV.len, ← hV.half] at this; exact this
  by_cases hf : used + roomM b.length ≤ h
  · refine (append_yes hA hV hst v b hb (by omega) hf).mono ?_
    rintro e w' (⟨D', rfl, h1, h2, h3⟩ | ⟨_, h1, _⟩)
    · exact ⟨0, D', _, _, rfl, h1, h2, h3 h0⟩
    · exact absurd h0 h1
  · refine (append_no hA hV hst v b hb 7 (refM_full _ _ (fun x hx => by rw [List.mem_singleton.1 hx]; omega) (by rw [secsB_one, layB_length]; omega)).symm (by decide)).mono ?_
    rintro e w' ⟨rfl, h1⟩
    exact ⟨7, D, used, recs, rfl, h1, hV.to (by omega), h0⟩
/-- The other log on the same disk, whose rows lie beside. -/
theorem LgAt.other {W0 : Base} {w : World} {m l d side used side2 used2 : Nat} {D : Dk} {recs recs2 : List (List Int)} {dead dead2 : Bool} {lv2 : Value} {vs2 : List Value} {M2 L : List Rw} (h : LgAt W0 w m d D side used recs dead (rowLog l d side2 used2 lv2 dead2 :: rowV lv2 vs2 :: (M2 ++ L))) (hL : Lst M2 vs2 recs2) (hs : side2 ≤ 1) (hf : used2 ≤ (D.last.length - 2) / 2) : LgAt W0 w l d D side2 used2 recs2 dead2 L := by
  obtain ⟨lv, vs, M, h1, h2⟩ := h.rest
  exact ⟨h.six, hs, hf, lv2, vs2, M2, h1.sub (((List.sublist_append_right _ _).cons _).cons _), hL⟩
end Go.Proofs.Ytpebpchnkhbcfaa
