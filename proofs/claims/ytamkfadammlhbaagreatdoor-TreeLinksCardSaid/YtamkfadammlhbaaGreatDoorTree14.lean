/- rename: the walks. -/
import Derived.Test.YtamkfadammlhbaaGreatDoorTree13
namespace Go.Proofs.YtamkfadammlhbaaGreatDoor
open Go.RowKit
open Go.ChangeMaps (setBlock)
set_option linter.unusedVariables false
set_option linter.unusedSimpArgs false
set_option maxRecDepth 100000

theorem Frame.more {S S2 S3 : Blocks} {F F3 : List Nat} {n m : Nat} (hs : ∀ b x, (b, x) ∈ S → (b, x) ∈ S2) (k : Frame S2 S3 F F3 m) (hnm : n ≤ m) (hlt : ∀ b x, (b, x) ∈ S → b < n) : Frame S S3 F F3 n :=
  (⟨fun b x hb _ => hs b x hb, fun b hb => .inl hb⟩ : Frame S S2 F F n).trans k hnm hlt
theorem two_boxes {w0 w : World} {S : Blocks} {L : List Rw} {t : Nat} {T : Tr} (hO : Own ⟨w0, S⟩ w L) (H : Tree S (Pc L) t T) (P Q : Obj) : ∃ w1 S2, w1 = (w.alloc P).alloc Q ∧ w1.heap.size = w.heap.size + 2 ∧ Own ⟨w0, S2⟩ w1.drew L ∧ Tree S2 (Pc L) t T ∧ (w.heap.size, P) ∈ S2 ∧ (w.heap.size + 1, Q) ∈ S2 ∧ (∀ b x, (b, x) ∈ S → (b, x) ∈ S2) ∧ (∀ b x, (b, x) ∈ S → b < w.heap.size) ∧ (∀ b ∈ t :: T.foot, b < w.heap.size) := by
  have h2 := (hO.newB P).newB Q
  rw [show (w.alloc P).heap.size = w.heap.size + 1 by simp] at h2
  refine ⟨_, (w.heap.size + 1, Q) :: (w.heap.size, P) :: S, rfl, by simp, h2.drew, H.mono (fun b x _ hx => List.mem_cons_of_mem _ (List.mem_cons_of_mem _ hx)) (fun _ _ h => h), List.mem_cons_of_mem _ (List.mem_cons_self ..), List.mem_cons_self .., fun b x hb => List.mem_cons_of_mem _ (List.mem_cons_of_mem _ hb), fun b x hb => (hO.atLt hb).2, fun b hb => ?_⟩
  obtain ⟨x, hx⟩ := kept_in H.at_ b hb
  exact (hO.atLt hx).2
/-- take at one place, then put at another one, with both places in boxes. -/
theorem take_put {w0 w w1 : World} {S S2 : Blocks} {L : List Rw} {t : Nat} {T T0 : Tr} {m : Nat} (hO : Own ⟨w0, S2⟩ w1 L) (H : Tree S2 (Pc L) t T) {ja jb i : Int} {nda ndb f : Nd} {ka kb : Nat} (ha : At T ja nda ka) (hb : At T jb ndb kb) {na nb : ByteArray} (hs : look nda.kids na = some i) (g : Fl T i f) (hp : 1 ≤ f.places)
    (hP : (m, Obj.cells #[.pointer (some ⟨nda.b, 0, none⟩), .string na] 115) ∈ S2) (hQ : (m + 1, Obj.cells #[.pointer (some ⟨ndb.b, 0, none⟩), .string nb] 115) ∈ S2) (hlow : ∀ b ∈ t :: T.foot, b < m) (hmw : m + 2 ≤ w1.heap.size)
    (hfr : Frame S S2 (t :: T0.foot) (t :: T.foot) w.heap.size) (hwm : w.heap.size ≤ m) (hlt : ∀ b x, (b, x) ∈ S → b < w.heap.size) :
    Calls Tryz.prog 89 #[.pointer (some ⟨t, 0, none⟩), .agg #[.pointer (some ⟨nda.b, 0, none⟩), .string na]] w1 (fun e w2 => e = .returned (.tuple #[]) ∧ w2.cell? ⟨m, 0, none⟩ = some (.pointer (some ⟨nda.b, 0, none⟩)) ∧ w2.cell? ⟨m, 1, none⟩ = some (.string na) ∧ w2.cell? ⟨m + 1, 0, none⟩ = some (.pointer (some ⟨ndb.b, 0, none⟩)) ∧ w2.cell? ⟨m + 1, 1, none⟩ = some (.string nb) ∧
      Calls Tryz.prog 88 #[.pointer (some ⟨t, 0, none⟩), .agg #[.pointer (some ⟨ndb.b, 0, none⟩), .string nb], .int .i64 i] w2 (fun e w3 => e = .returned (.tuple #[]) ∧ ∃ S', Own ⟨w0, S'⟩ w3 L ∧ Tree S' (Pc L) t (putTx (takeTx T ja na) jb nb i) ∧ Frame S S' (t :: T0.foot) (t :: (putTx (takeTx T ja na) jb nb i).foot) w.heap.size)) :=
  (take_on hO H ha hs g).mono fun e w2 hd => by
    obtain ⟨e1, S3, h1, h2, h3⟩ := hd
    have m1 := h3.kept _ _ hP (fun hm => by have := hlow _ hm; omega)
    have m2 := h3.kept _ _ hQ (fun hm => by have := hlow _ hm; omega)
    obtain ⟨nd2, x1, x2, _, _⟩ := ha.behind (name := na) g hb
    obtain ⟨f2, y1⟩ := Fl.behind (name := na) ha g g (.inl hp)
    rw [← takeTx_of ha.there hs g.there] at x1 y1
    have hp2 := put_on h1 h2 x1 nb y1
    rw [x2] at hp2
    have hsz : w.heap.size ≤ w2.heap.size := by
      have := (h1.atLt m2).2
      omega
    refine ⟨e1, by rw [h1.cellB m1]; rfl, by rw [h1.cellB m1]; rfl, by rw [h1.cellB m2]; rfl, by rw [h1.cellB m2]; rfl, hp2.mono fun e w3 hd => ?_⟩
    obtain ⟨e2, S4, z1, z2, z3⟩ := hd
    exact ⟨e2, S4, z1, z2, (hfr.trans h3 (by omega) hlt).trans z3 hsz hlt⟩
def argP (nd : Nd) (name : ByteArray) : Value := .agg #[.pointer (some ⟨nd.b, 0, none⟩), .string name]
abbrev boxP (nd : Nd) (name : ByteArray) : Obj := .cells #[.pointer (some ⟨nd.b, 0, none⟩), .string name] 115
def RenamePost (w0 : World) (S : Blocks) (L : List Rw) (t : Nat) (T T' : Tr) (w : World) (c : Int) : Ending → World → Prop := DoL w0 S L t T w (fun T2 => T2 = T') (.int .i64 c)
set_option maxHeartbeats 2000000 in
/-- To where nothing stands. -/
theorem rename_free {w0 w : World} {S : Blocks} {L : List Rw} {t : Nat} {T : Tr} (hO : Own ⟨w0, S⟩ w L) (H : Tree S (Pc L) t T) {ja jb i : Int} {nda ndb f : Nd} {ka kb : Nat} (ha : At T ja nda ka) (hb : At T jb ndb kb) {na nb : ByteArray} (hs : look nda.kids na = some i) (g : Fl T i f) (hp : 1 ≤ f.places) (hx : look ndb.kids nb = none) :
    Calls Tryz.prog 91 #[.pointer (some ⟨t, 0, none⟩), .agg #[.pointer (some ⟨nda.b, 0, none⟩), .string na], .agg #[.pointer (some ⟨ndb.b, 0, none⟩), .string nb], .int .i64 i] w (DoL w0 S L t T w (fun T2 => T2 = putTx (takeTx T ja na) jb nb i) (.int .i64 0)) := by
  obtain ⟨w1, S2, hw1, hsz, hO1, H1, m1, m2, hsub, hlt, hlow⟩ := two_boxes hO H (boxP nda na) (boxP ndb nb)
  have p0 : w1.drew.cell? ⟨w.heap.size, 0, none⟩ = some (.pointer (some ⟨nda.b, 0, none⟩)) := by rw [hO1.cellB m1]; rfl
  have p1 : w1.drew.cell? ⟨w.heap.size, 1, none⟩ = some (.string na) := by rw [hO1.cellB m1]; rfl
  have q0 : w1.drew.cell? ⟨w.heap.size + 1, 0, none⟩ = some (.pointer (some ⟨ndb.b, 0, none⟩)) := by rw [hO1.cellB m2]; rfl
  have q1 : w1.drew.cell? ⟨w.heap.size + 1, 1, none⟩ = some (.string nb) := by rw [hO1.cellB m2]; rfl
  have hNW := (H1.at_.inWorld hO1).node _ (look_mem hb.there)
  obtain ⟨c0, _, _⟩ := hNW.at0
  rw [hb.dir] at c0
  have hl := hNW.look hb.dir nb
  rw [hx] at hl
  dsimp only [Option.getD_none, Option.isSome_none] at hl
  have hT := take_put (w := w) (T0 := T) (m := w.heap.size) hO1 H1 ha hb hs g hp m1 m2 hlow (by show _ ≤ w1.heap.size; omega) ⟨fun b x hb _ => hsub b x hb, fun b hb => .inl hb⟩ (Nat.le_refl _) hlt
  clear hO H hO1 H1 ha hb hx hNW hs g hp m1 m2 hsub hlt hlow hsz
  go_enter Tryz.func91, Tryz.ntmps91
  go_wp2_with fail
  rw [← hw1]
  clear hw1
  go_region
  go_wp2_with fail
  refine hT.mono ?_
  rintro e w2 ⟨rfl, r0, r1, s0, s1, hput⟩
  clear p0 p1 q0 q1 c0 hl hT
  go_wp2_with fail
  refine hput.mono ?_
  rintro e w3 ⟨rfl, S', k1, k2, k3⟩
  have HP := Lib.hid (show DoL w0 S L t T w (fun T2 => T2 = putTx (takeTx T ja na) jb nb i) (.int .i64 0) (.returned (.int .i64 0)) w3 from ⟨S', L, _, rfl, k1, fun _ h => h, k2, k3, rfl⟩)
  clear k1 k2 k3 hput
  go_wp2_with fail
  go_ret
  exact HP.out
end Go.Proofs.YtamkfadammlhbaaGreatDoor
