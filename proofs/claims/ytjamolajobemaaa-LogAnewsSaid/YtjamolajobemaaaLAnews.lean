/- 'LogAnews': what the law holds between two times. -/
import Derived.Test.YtjamolajobemaaaLTorn
import Derived.Test.YtjamolajobemaaaLLive2
namespace Go.Proofs.Ytjamolajobemaaa
open Go.RowKit
set_option linter.unusedVariables false
set_option linter.unusedSimpArgs false

/-- Lists of records that came in, in a row. -/
def Times (w : World) (a : Option Addr) (TS : List (Option Addr × Nat × List (Value × List Int))) : Prop :=
  ∀ i (h : i < TS.length), ∃ g o, a = some ⟨g, o, none⟩ ∧ w.cell? ⟨g, o + i, none⟩ = some (.slice TS[i].1 TS[i].2.2.length TS[i].2.1) ∧ Parts w TS[i].1 TS[i].2.2 ∧ TS[i].2.2.length ≤ maxLen
theorem Times.later {w w' : World} {a : Option Addr} {TS : List (Option Addr × Nat × List (Value × List Int))} (h : Times w a TS) (hb : Below w.heap.size w w') : Times w' a TS := by
  intro i hi
  obtain ⟨g, o, ha, hc, hy, hl⟩ := h i hi
  exact ⟨g, o, ha, (hb.cell (p := ⟨g, o + i, none⟩) (World.block_lt_of_cell? w _ hc)).trans hc, hy.later hb, hl⟩
/-- Numbers that came in, in a row. -/
def Ints (w : World) (a : Option Addr) (zs : List Int) : Prop :=
  ∀ i (h : i < zs.length), ∃ g o, a = some ⟨g, o, none⟩ ∧ w.cell? ⟨g, o + i, none⟩ = some (.int .i64 zs[i])
theorem Ints.later {w w' : World} {a : Option Addr} {zs : List Int} (h : Ints w a zs) (hb : Below w.heap.size w w') : Ints w' a zs := by
  intro i hi
  obtain ⟨g, o, ha, hc⟩ := h i hi
  exact ⟨g, o, ha, (hb.cell (p := ⟨g, o + i, none⟩) (World.block_lt_of_cell? w _ hc)).trans hc⟩
/-- A disk that is new, or on which a log lies that holds these. -/
def Shelf (W0 : Base) (w : World) (d : Nat) (D : Dk) (held : List (List Int)) (st : Nat) (L : List Rw) : Prop :=
  DkAt W0 w d D L ∧ ((D = newM 80 ∧ held = []) ∨ ∃ side used, Live D 80 39 side used held st)
theorem open_shelf {W0 : Base} {w : World} {d st : Nat} {D : Dk} {held : List (List Int)} {L : List Rw} (h : Shelf W0 w d D held st L) :
    Calls Try.prog 9 #[.pointer (some ⟨d, 0, none⟩)] w fun e w' => ∃ l D' side used, e = .returned (.tuple #[.pointer (some ⟨l, 0, none⟩), .int .i64 0]) ∧ LgAt W0 w' l d D' side used held false L ∧ Live D' 80 39 side used held (st + 3) := by
  obtain ⟨hA, ⟨rfl, rfl⟩ | ⟨side, used, hL⟩⟩ := h
  · exact (open_new hA (by decide) (by decide)).mono fun e w' ⟨l, D', h1, h2, h3, _⟩ => ⟨l, D', 0, 0, h1, h2, h3.to (by omega)⟩
  · exact (open_live hA hL).mono fun e w' ⟨l, h1, h2⟩ => ⟨l, D, side, used, h1, h2, hL.to (by omega)⟩
/-- A list that is read beside one of the call's own. -/
theorem same_old {W0 : Base} {w : World} {X : List Rw} {lv : Value} {vs : List Value} {recs : List (List Int)} (hO : Own W0 w X) (hm : rowV lv vs ∈ X) (hL : Lst X vs recs) (a2 : Option Addr) (c2 : Nat) (PS : List (Value × List Int)) (hP : Parts w a2 PS) (hn : PS.length ≤ maxLen) :
    Calls Try.prog 13 #[lv, .slice a2 PS.length c2] w fun e w' => e = .returned (.bool (decide (recs = PS.map (·.2)))) ∧ ∃ m, w' = w.drewN m := by
  obtain ⟨a, c, rfl, hP1, h1⟩ := parts_in hO hm hL
  have e1 : (vs.zip recs).length = vs.length := by rw [List.length_zip, ← hL.1, Nat.min_self]
  have := same_any a a2 c c2 (vs.zip recs) PS w hP1 hP (by rw [e1]; exact h1) hn
  rw [e1, zip_recs vs recs hL.1] at this
  exact this
/-- What a crash and a start behind a rewriting leave. -/
theorem shelf_crash {D : Dk} {n h side used st : Nat} {recs : List (List Int)} (hV : Live D n h side used recs st) (k : Int) : Live (onM (crashM D k)) n h side used recs st := by
  obtain ⟨p1, p2, p3, p4, p5⟩ := crash_clean D hV.clean k
  exact ⟨⟨p1.1, p1.2⟩, rfl, by show (crashM D k).last.length = n; rw [p2]; exact hV.len, hV.half, by show Holds (crashM D k).last _ _ _ _; rw [p2]; exact hV.holds, by show (crashM D k).steps ≤ _; rw [p5]; exact hV.steps⟩
theorem shelf_crash2 {D : Dk} {n h side used st : Nat} {recs : List (List Int)} (hc : Clean D) (hl : D.last.length = n) (hh : h = (n - 2) / 2) (hH : Holds D.last h side used recs) (hs : D.steps ≤ (st : Nat)) (k : Int) : Live (onM (crashM D k)) n h side used recs st := by
  obtain ⟨p1, p2, p3, p4, p5⟩ := crash_clean D hc k
  exact ⟨⟨p1.1, p1.2⟩, rfl, by show (crashM D k).last.length = n; rw [p2]; exact hl, hh, by show Holds (crashM D k).last _ _ _ _; rw [p2]; exact hH, by show (crashM D k).steps ≤ _; rw [p5]; exact hs⟩
/-- Rewriting, whichever way it ends: behind a crash and a start the log holds what it held, or what it was told. -/
theorem rewrite_crash {W0 : Base} {w : World} {l d side used st : Nat} {D : Dk} {recs : List (List Int)} {L : List Rw} (hA : LgAt W0 w l d D side used recs false L) (hV : Live D 80 39 side used recs st) (hst : st ≤ 1000000000) (a : Option Addr) (c : Nat) (PS : List (Value × List Int)) (recs2 : List (List Int)) (h2 : PS.map (·.2) = recs2) (hP : ∀ w', Own W0 w' L → Parts w' a PS) (hR : Recs recs2) (hf : (secsB recs2).length ≤ 39) :
    Calls Try.prog 15 #[.pointer (some ⟨l, 0, none⟩), .slice a PS.length c] w fun e w' => ∃ (D' : Dk) (code : Int) (L' : List Rw) (now : List (List Int)), e = .returned (.int .i64 code) ∧ (code = 0 ∨ code = 3) ∧ DkAt W0 w' d D' L' ∧ (∀ r ∈ L, r ∈ L') ∧ (now = recs2 ∨ code = 3 ∧ now = recs) ∧ ∀ k, ∃ s u, Live (onM (crashM D' k)) 80 39 s u now (st + 5000) := by
  refine (rewrite_yes hA hV hst a c PS recs2 h2 hP hR hf).mono ?_
  rintro e w' (⟨D', rfl, h3, h4, _⟩ | ⟨D', _, rfl, h3, h4, h5, h6, h7, h8, h9⟩)
  · obtain ⟨L', h10, h11⟩ := h3.diskIn
    exact ⟨D', 0, L', recs2, rfl, .inl rfl, h10, h11, .inl rfl, fun k => ⟨_, _, shelf_crash h4 k⟩⟩
  · obtain ⟨L', h10, h11⟩ := h3.diskIn
    rcases h9 with h9 | h9
    · exact ⟨D', 3, L', recs, rfl, .inr rfl, h10, h11, .inr ⟨rfl, rfl⟩, fun k => ⟨_, _, shelf_crash2 h4 h7 rfl h9 h8 k⟩⟩
    · exact ⟨D', 3, L', recs2, rfl, .inr rfl, h10, h11, .inl rfl, fun k => ⟨_, _, shelf_crash2 h4 h7 rfl h9 h8 k⟩⟩
theorem secs_some (recs : List (List Int)) (m : Nat) (h : ∀ b ∈ recs, b.length ≤ 100) : (secsB recs).length ≤ 2 * recs.length := by
  induction recs with
  | nil => simp [secsB]
  | cons b t ih =>
    have h1 := ih (fun x hx => h x (List.mem_cons_of_mem _ hx))
    have h2 := h b (List.mem_cons_self ..)
    have e : secsB (b :: t) = secsB [b] ++ secsB t := by rw [← secsB_append]; rfl
    rw [e, List.length_append, secsB_one, layB_length, List.length_cons]
    unfold roomM
    omega
end Go.Proofs.Ytjamolajobemaaa
