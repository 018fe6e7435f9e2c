/- What the calls of a log make of it, in one form for each. -/
import Derived.Test.YtpebpchnkhbcfaaLOpen2
namespace Go.Proofs.Ytpebpchnkhbcfaa
open Go.RowKit
set_option linter.unusedVariables false
set_option linter.unusedSimpArgs false

/-- A disk with power on which a log lies. -/
structure Live (D : Dk) (n h side used : Nat) (recs : List (List Int)) (st : Nat) : Prop where
  clean : Clean D
  up : D.down = false
  len : D.last.length = n
  half : h = (n - 2) / 2
  holds : Holds D.last h side used recs
  steps : D.steps ≤ st
theorem crash_clean (D : Dk) (h : Clean D) (k : Int) : Clean (crashM D k) ∧ (crashM D k).last = D.last ∧ (crashM D k).down = true ∧ (crashM D k).left = 0 ∧ (crashM D k).steps = D.steps := by
  have e1 : (crashM D k).last = D.last := by
    show lastTo _ D D.since.length = D.last
    rw [h.1]; rfl
  have e2 : (crashM D k).kept = D.kept := by
    show keptTo D k D.since.length = D.kept
    rw [h.1]; rfl
  exact ⟨⟨rfl, by rw [e1, e2]; exact h.2⟩, e1, rfl, rfl, rfl⟩
theorem newM_clean (n : Nat) : Clean (newM n) := ⟨rfl, rfl⟩
theorem keep_first (D : Dk) (n : Nat) (hc : Clean D) (hu : D.down = false) (hl : D.left = 0) (hn : D.last.length = n) (h6 : 6 ≤ n) (hm : n ≤ 4096) :
    (keepM D ((n - 2) / 2) 0 0 []).2 = 0 ∧ Clean (keepM D ((n - 2) / 2) 0 0 []).1 ∧ (keepM D ((n - 2) / 2) 0 0 []).1.down = false ∧ (keepM D ((n - 2) / 2) 0 0 []).1.left = 0 ∧ (keepM D ((n - 2) / 2) 0 0 []).1.last.length = n ∧ Holds (keepM D ((n - 2) / 2) 0 0 []).1.last ((n - 2) / 2) 0 0 [] ∧ (keepM D ((n - 2) / 2) 0 0 []).1.steps ≤ D.steps + 3 := by
  have h := keep_anew D hc hu (by omega) ((n - 2) / 2) 0 [] (by omega) (by omega) (by rw [hn]) (by decide) (fun b hb => by cases hb) (by simp [secsB])
  have e : secsV [] = [] := rfl
  have e2 : (secsB []).length = 0 := rfl
  rw [e, e2] at h
  obtain ⟨l1, l2⟩ := h.left hl
  have hs := h.steps
  rcases h.ends with ⟨_, h2, h3⟩ | ⟨h2, _⟩
  · exact ⟨l2, h.clean, h2, l1, h.len.trans hn, h3, by omega⟩
  · rw [l2] at h2; cases h2
/-- A new disk's log is opened. -/
theorem open_new {W0 : Base} {w : World} {d n : Nat} {L : List Rw} (hA : DkAt W0 w d (newM n) L) (h6 : 6 ≤ n) (hm : n ≤ 4096) :
    Calls Try.prog 9 #[.pointer (some ⟨d, 0, none⟩)] w fun e w' => ∃ l D, e = .returned (.tuple #[.pointer (some ⟨l, 0, none⟩), .int .i64 0]) ∧ LgAt W0 w' l d D 0 0 [] false L ∧ Live D n ((n - 2) / 2) 0 0 [] 3 ∧ D.left = 0 := by
  have hl : (newM n).last.length = n := by simp [newM]
  obtain ⟨k1, k2, k3, k4, k5, k6, k7⟩ := keep_first (newM n) n (newM_clean n) rfl rfl hl h6 hm
  exact (open_blank hA rfl rfl h6 (newM_clean n) (by show (0 : Int) ≤ _; decide) k1).mono fun e w' ⟨l, h1, h2⟩ => ⟨l, _, h1, h2, ⟨k2, k3, k5, rfl, k6, by have : (newM n).steps = 0 := rfl; omega⟩, k4⟩
/-- A log that lies there is opened. -/
theorem open_live {W0 : Base} {w : World} {d n h side used st : Nat} {D : Dk} {recs : List (List Int)} {L : List Rw} (hA : DkAt W0 w d D L) (hL : Live D n h side used recs st) :
    Calls Try.prog 9 #[.pointer (some ⟨d, 0, none⟩)] w fun e w' => ∃ l, e = .returned (.tuple #[.pointer (some ⟨l, 0, none⟩), .int .i64 0]) ∧ LgAt W0 w' l d D side used recs false L :=
  open_holds hA hL.up hL.holds

theorem refM_down (dead down : Bool) (room : Nat) (recs : List (List Int)) (h : (dead || down) = true) : refM dead down room recs = 3 := by
  unfold refM; rw [if_pos h]
theorem refM_yes (room : Nat) (recs : List (List Int)) (h1 : ∀ b ∈ recs, b.length ≤ 4096) (h2 : (secsB recs).length ≤ room) : refM false false room recs = 0 := by
  unfold refM
  rw [if_neg (by decide), if_neg (fun ⟨b, h3, h4⟩ => by have := h1 b h3; omega), if_neg (by omega)]
theorem refM_long (room : Nat) (recs : List (List Int)) (b : List Int) (hb : b ∈ recs) (h : 4096 < b.length) : refM false false room recs = 6 := by
  unfold refM
  rw [if_neg (by decide), if_pos ⟨b, hb, h⟩]
theorem refM_full (room : Nat) (recs : List (List Int)) (h1 : ∀ b ∈ recs, b.length ≤ 4096) (h2 : room < (secsB recs).length) : refM false false room recs = 7 := by
  unfold refM
  rw [if_neg (by decide), if_neg (fun ⟨b, h3, h4⟩ => by have := h1 b h3; omega), if_pos h2]
theorem Live.many {D : Dk} {n h side used st : Nat} {recs : List (List Int)} (H : Live D n h side used recs st) : recs.length ≤ 1000000 := by
  have := recs_le recs
  rw [← H.holds.uses] at this
  have := H.holds.fit
  have := H.holds.most
  have := H.half
  have := H.len
  omega

/-- Without power, or a log under which it went. -/
theorem append_down {W0 : Base} {w : World} {l d : Nat} {D : Dk} {side used : Nat} {recs : List (List Int)} {dead : Bool} {L : List Rw} (h : LgAt W0 w l d D side used recs dead L) (v : Value) (b : List Int) (hb : ∀ w', Own W0 w' L → By w' v b) (hR : recs.length ≤ 1000000)
    (hc : Clean D) (hst : D.steps ≤ 4611686018427000000) (hd : (dead || D.down) = true) :
    Calls Try.prog 10 #[.pointer (some ⟨l, 0, none⟩), v] w fun e w' => e = .returned (.int .i64 3) ∧ LgAt W0 w' l d D side used recs true L := by
  refine append_lg h v b hb hR hc hst 3 (refM_down dead D.down _ _ hd).symm _ (fun w' _ h2 => ⟨rfl, by rw [hd] at h2; exact h2⟩) (fun w' h1 => absurd h1 (by decide)) (fun w' h1 => absurd h1 (by decide))
/-- A record that is refused for what it is, or for want of room. -/
theorem append_no {W0 : Base} {w : World} {l d n h side used st : Nat} {D : Dk} {recs : List (List Int)} {L : List Rw} (hA : LgAt W0 w l d D side used recs false L) (hV : Live D n h side used recs st) (hst : st ≤ 1000000000) (v : Value) (b : List Int) (hb : ∀ w', Own W0 w' L → By w' v b) (code : Int) (hcode : code = refM false false (h - used) [b]) (hne : code ≠ 0) :
    Calls Try.prog 10 #[.pointer (some ⟨l, 0, none⟩), v] w fun e w' => e = .returned (.int .i64 code) ∧ LgAt W0 w' l d D side used recs false L := by
  have hs := hV.steps
  refine append_lg hA v b hb hV.many hV.clean (by omega) code (by rw [hcode, hV.up, hV.len, ← hV.half]) _ (fun w' _ h2 => ⟨rfl, by rw [hV.up] at h2; exact h2⟩) (fun w' h1 => absurd h1 hne) (fun w' h1 => absurd h1 hne)
/-- A record that has room: it is kept, or the power goes. -/
theorem append_yes {W0 : Base} {w : World} {l d n h side used st : Nat} {D : Dk} {recs : List (List Int)} {L : List Rw} (hA : LgAt W0 w l d D side used recs false L) (hV : Live D n h side used recs st) (hst : st ≤ 1000000000) (v : Value) (b : List Int) (hb : ∀ w', Own W0 w' L → By w' v b) (hl : b.length ≤ 4096) (hf : used + roomM b.length ≤ h) :
    Calls Try.prog 10 #[.pointer (some ⟨l, 0, none⟩), v] w fun e w' =>
      (∃ D', e = .returned (.int .i64 0) ∧ LgAt W0 w' l d D' side (used + roomM b.length) (recs ++ [b]) false L ∧ Live D' n h side (used + roomM b.length) (recs ++ [b]) (st + 100) ∧ (D.left = 0 → D'.left = 0)) ∨
      (∃ D', D.left ≠ 0 ∧ e = .returned (.int .i64 3) ∧ LgAt W0 w' l d D' side used recs true L ∧ Clean D' ∧ D'.down = true ∧ D'.left = 0 ∧ D'.last.length = n ∧ D'.steps ≤ (st + 100 : Nat) ∧ (Holds D'.last h side used recs ∨ Holds D'.last h side (used + roomM b.length) (recs ++ [b]))) := by
  have hs := hV.steps
  have hby := (hb w hA.own).2.1
  have hroom : roomM b.length ≤ 66 := by unfold roomM; omega
  have hK := keep_append D hV.clean hV.up hA.ok.left0 h side used recs b hV.holds hby hl hf
  have hks := hK.steps
  have hkl := hK.len
  have hhh : (D.last.length - 2) / 2 = h := by rw [hV.len]; exact hV.half.symm
  have hcode : (0 : Int) = refM false D.down ((D.last.length - 2) / 2 - used) [b] := by
    rw [hV.up, hhh]
    exact (refM_yes _ _ (fun x hx => by rw [List.mem_singleton.1 hx]; exact hl) (by rw [secsB_one, layB_length]; omega)).symm
  refine append_lg hA v b hb hV.many hV.clean (by omega) 0 hcode _ (fun w' h1 => absurd rfl h1) (fun w' _ h1 h2 => .inl ?_) (fun w' _ h1 h2 => .inr ?_)
  · rw [hhh] at h1 h2
    rcases hK.ends with ⟨_, k2, k3⟩ | ⟨k1, _⟩
    · exact ⟨_, rfl, h2, ⟨hK.clean, k2, hkl.trans hV.len, hV.half, k3, by omega⟩, fun e => (hK.left e).1⟩
    · rw [h1] at k1; cases k1
  · rw [hhh] at h1 h2 ⊢
    rcases hK.ends with ⟨k1, _⟩ | ⟨k1, k2, k3, k4⟩
    · exact absurd k1 h1
    · refine ⟨_, fun e => h1 (hK.left e).2, by rw [k1], h2, hK.clean, k2, k3, hkl.trans hV.len, by omega, ?_⟩
      exact k4 side used recs hV.holds (.inr (Nat.le_refl _))
end Go.Proofs.Ytpebpchnkhbcfaa
