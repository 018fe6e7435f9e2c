/- rename over what stands. -/
import Derived.Test.YtamkfadammlhbaaGreatDoorTree14
namespace Go.Proofs.YtamkfadammlhbaaGreatDoor
open Go.RowKit
open Go.ChangeMaps (setBlock)
set_option linter.unusedVariables false
set_option linter.unusedSimpArgs false
set_option maxRecDepth 100000

theorem foot_takeTx {T : Tr} {j : Int} {nd : Nd} {k : Nat} {name : ByteArray} {i : Int} {f : Nd} (h : At T j nd k) (hs : look nd.kids name = some i) (g : Fl T i f) : (takeTx T j name).foot = T.foot := by
  rw [takeTx_of h.there hs g.there]
  have hj2 : look (T.setN i { f with places := f.places - 1 }).nodes j = some nd := by unfold Tr.setN; rw [look_put, if_neg (h.ne g)]; exact h.there
  exact (setN_foot (n' := { nd with kids := del nd.kids name }) hj2 rfl rfl).trans (setN_foot (n' := { f with places := f.places - 1 }) g.there rfl rfl)
set_option maxHeartbeats 2000000 in
/-- To where something stands: a directory, or the file itself. -/
theorem rename_still {w0 w : World} {S : Blocks} {L : List Rw} {t : Nat} {T : Tr} (hO : Own ⟨w0, S⟩ w L) (H : Tree S (Pc L) t T) {jb i old : Int} {nda ndb fo : Nd} {kb : Nat} (hb : At T jb ndb kb) {na nb : ByteArray} (hx : look ndb.kids nb = some old) (ho : look T.nodes old = some fo)
    {c : Int} (hc : (fo.k.isSome = true ∧ c = 10) ∨ (fo.k.isSome = false ∧ old = i ∧ c = 0)) :
    Calls Tryz.prog 91 #[.pointer (some ⟨t, 0, none⟩), .agg #[.pointer (some ⟨nda.b, 0, none⟩), .string na], .agg #[.pointer (some ⟨ndb.b, 0, none⟩), .string nb], .int .i64 i] w (DoL w0 S L t T w (fun T2 => T2 = T) (.int .i64 c)) := by
  obtain ⟨w1, S2, hw1, hsz, hO1, H1, m1, m2, hsub, hlt, hlow⟩ := two_boxes hO H (boxP nda na) (boxP ndb nb)
  have q0 : w1.drew.cell? ⟨w.heap.size + 1, 0, none⟩ = some (.pointer (some ⟨ndb.b, 0, none⟩)) := by rw [hO1.cellB m2]; rfl
  have q1 : w1.drew.cell? ⟨w.heap.size + 1, 1, none⟩ = some (.string nb) := by rw [hO1.cellB m2]; rfl
  have hNW := (H1.at_.inWorld hO1).node _ (look_mem hb.there)
  obtain ⟨c0, _, _⟩ := hNW.at0
  rw [hb.dir] at c0
  have hl := hNW.look hb.dir nb
  rw [hx] at hl
  dsimp only [Option.getD_some, Option.isSome_some] at hl
  have c2 := (H1.at_.inWorld hO1).at0.2.2
  have hl2 := (H1.at_.inWorld hO1).look old
  rw [ho] at hl2
  dsimp only [ptrOf] at hl2
  have hdir := dir_any ((H1.at_.inWorld hO1).node _ (look_mem ho))
  have HP := Lib.hid (show ∀ c : Int, DoL w0 S L t T w (fun T2 => T2 = T) (.int .i64 c) (.returned (.int .i64 c)) w1.drew from fun c => ⟨S2, L, T, rfl, hO1, fun _ h => h, H1, ⟨fun b x hb _ => hsub b x hb, fun b hb => .inl hb⟩, rfl⟩)
  rcases hc with ⟨h1, rfl⟩ | ⟨h1, rfl, rfl⟩
  · rw [h1] at hdir
    clear hO H hO1 H1 hb hx hNW m1 m2 hsub hlt hlow hsz ho h1
    go_enter Tryz.func91, Tryz.ntmps91
    go_wp2_with fail
    rw [← hw1]
    clear hw1
    go_region
    go_wp2_with (go_at_call 58; refine hdir.mono ?_; rintro e w' ⟨rfl, rfl⟩)
    go_ret
    exact HP.out _
  · rw [h1] at hdir
    clear hO H hO1 H1 hb hx hNW m1 m2 hsub hlt hlow hsz ho h1
    go_enter Tryz.func91, Tryz.ntmps91
    go_wp2_with fail
    rw [← hw1]
    clear hw1
    go_region
    go_wp2_with (go_at_call 58; refine hdir.mono ?_; rintro e w' ⟨rfl, rfl⟩)
    go_ret
    exact HP.out _
set_option maxHeartbeats 2000000 in
/-- Over another file. -/
theorem rename_over {w0 w : World} {S : Blocks} {L : List Rw} {t : Nat} {T : Tr} (hO : Own ⟨w0, S⟩ w L) (H : Tree S (Pc L) t T) {ja jb i old : Int} {nda ndb f fo : Nd} {ka kb : Nat} (ha : At T ja nda ka) (hb : At T jb ndb kb) {na nb : ByteArray} (hs : look nda.kids na = some i) (g : Fl T i f) (hp : 1 ≤ f.places)
    (hx : look ndb.kids nb = some old) (go : Fl T old fo) (hne : old ≠ i) :
    Calls Tryz.prog 91 #[.pointer (some ⟨t, 0, none⟩), .agg #[.pointer (some ⟨nda.b, 0, none⟩), .string na], .agg #[.pointer (some ⟨ndb.b, 0, none⟩), .string nb], .int .i64 i] w (DoL w0 S L t T w (fun T2 => T2 = putTx (takeTx (takeTx T jb nb) ja na) jb nb i) (.int .i64 0)) := by
  obtain ⟨w1, S2, hw1, hsz, hO1, H1, m1, m2, hsub, hlt, hlow⟩ := two_boxes hO H (boxP nda na) (boxP ndb nb)
  have p0 : w1.drew.cell? ⟨w.heap.size, 0, none⟩ = some (.pointer (some ⟨nda.b, 0, none⟩)) := by rw [hO1.cellB m1]; rfl
  have p1 : w1.drew.cell? ⟨w.heap.size, 1, none⟩ = some (.string na) := by rw [hO1.cellB m1]; rfl
  have q0 : w1.drew.cell? ⟨w.heap.size + 1, 0, none⟩ = some (.pointer (some ⟨ndb.b, 0, none⟩)) := by rw [hO1.cellB m2]; rfl
  have q1 : w1.drew.cell? ⟨w.heap.size + 1, 1, none⟩ = some (.string nb) := by rw [hO1.cellB m2]; rfl
  have hNW := (H1.at_.inWorld hO1).node _ (look_mem hb.there)
  obtain ⟨c0, _, _⟩ := hNW.at0
  rw [hb.dir] at c0
  have hl := hNW.look hb.dir nb
  rw [hx] at hl
  dsimp only [Option.getD_some, Option.isSome_some] at hl
  have c2 := (H1.at_.inWorld hO1).at0.2.2
  have hl2 := (H1.at_.inWorld hO1).look old
  rw [go.there] at hl2
  dsimp only [ptrOf] at hl2
  have hdir := dir_any ((H1.at_.inWorld hO1).node _ (look_mem go.there))
  rw [show fo.k.isSome = false by rw [go.file]; rfl] at hdir
  have hq : (old == i) = false := by simpa using hne
  have hT0 : Calls Tryz.prog 89 #[.pointer (some ⟨t, 0, none⟩), .agg #[.pointer (some ⟨ndb.b, 0, none⟩), .string nb]] w1.drew (fun e w2 => e = .returned (.tuple #[]) ∧ w2.cell? ⟨w.heap.size, 0, none⟩ = some (.pointer (some ⟨nda.b, 0, none⟩)) ∧ w2.cell? ⟨w.heap.size, 1, none⟩ = some (.string na) ∧
      Calls Tryz.prog 89 #[.pointer (some ⟨t, 0, none⟩), .agg #[.pointer (some ⟨nda.b, 0, none⟩), .string na]] w2 (fun e w3 => e = .returned (.tuple #[]) ∧ w3.cell? ⟨w.heap.size + 1, 0, none⟩ = some (.pointer (some ⟨ndb.b, 0, none⟩)) ∧ w3.cell? ⟨w.heap.size + 1, 1, none⟩ = some (.string nb) ∧
        Calls Tryz.prog 88 #[.pointer (some ⟨t, 0, none⟩), .agg #[.pointer (some ⟨ndb.b, 0, none⟩), .string nb], .int .i64 i] w3 (fun e w4 => e = .returned (.tuple #[]) ∧ DoL w0 S L t T w (fun T2 => T2 = putTx (takeTx (takeTx T jb nb) ja na) jb nb i) (.int .i64 0) (.returned (.int .i64 0)) w4))) :=
    (take_on hO1 H1 hb hx go).mono fun e w2 hd => by
      obtain ⟨e1, S3, h1, h2, h3⟩ := hd
      have n1 := h3.kept _ _ m1 (fun hm => by have := hlow _ hm; omega)
      have n2 := h3.kept _ _ m2 (fun hm => by have := hlow _ hm; omega)
      obtain ⟨nda2, x1, x2, x3, x4⟩ := hb.behind (name := nb) go ha
      obtain ⟨ndb2, y1, y2, _, _⟩ := hb.behind (name := nb) go hb
      have g1 : Fl (takeT T jb ndb nb old fo) i f := ⟨by rw [look_takeT, if_neg (hb.ne g).symm, if_neg (fun e => hne e.symm)]; exact g.there, g.file, g.low, g.high⟩
      have hs2 : look nda2.kids na = some i := by
        by_cases e : ja = jb
        · have e2 : nda = ndb := by have h1 := ha.there; rw [e, hb.there] at h1; injection h1 with h1; exact h1.symm
          rw [x4 e, look_del_ne, hs]
          intro e3
          rw [e2, e3, hx] at hs
          injection hs with hs
          exact hne hs
        · rw [x3 e]; exact hs
      rw [← takeTx_of hb.there hx go.there] at x1 y1 g1
      have n1' : (w.heap.size, boxP nda2 na) ∈ S3 := by unfold boxP; rw [x2]; exact n1
      have n2' : (w.heap.size + 1, boxP ndb2 nb) ∈ S3 := by unfold boxP; rw [y2]; exact n2
      have hft := foot_takeTx hb hx go
      have hsz2 : w.heap.size + 2 ≤ w2.heap.size := by have := (h1.atLt n2).2; omega
      have hT := take_put (w := w) (T0 := T) (m := w.heap.size) h1 h2 x1 y1 hs2 g1 hp n1' n2' (by rw [hft]; exact hlow) hsz2 (Frame.more hsub h3 (by show _ ≤ w1.heap.size; omega) hlt) (Nat.le_refl _) hlt
      rw [x2, y2] at hT
      refine ⟨e1, by rw [h1.cellB n1]; rfl, by rw [h1.cellB n1]; rfl, hT.mono fun e w3 hd => ?_⟩
      obtain ⟨e2, _, _, r0, r1, hput⟩ := hd
      refine ⟨e2, r0, r1, hput.mono fun e w4 hd => ?_⟩
      obtain ⟨e3, S', k1, k2, k3⟩ := hd
      exact ⟨e3, S', L, _, rfl, k1, fun _ h => h, k2, k3, rfl⟩
  clear hO H hO1 H1 ha hb hx hNW hs g hp m1 m2 hsub hlt hlow hsz go hne
  go_enter Tryz.func91, Tryz.ntmps91
  go_wp2_with fail
  rw [← hw1]
  clear hw1
  go_region
  go_wp2_with (go_at_call 58; refine hdir.mono ?_; rintro e w' ⟨rfl, rfl⟩)
  refine hT0.mono ?_
  rintro e w2 ⟨rfl, r0, r1, hT⟩
  clear p0 p1 q0 q1 c0 hl hT0
  go_wp2_with fail
  refine hT.mono ?_
  rintro e w3 ⟨rfl, s0, s1, hput⟩
  clear r0 r1 hT
  go_wp2_with fail
  refine hput.mono ?_
  rintro e w4 ⟨rfl, hD⟩
  have HP := Lib.hid hD
  clear hD hput
  go_wp2_with fail
  go_ret
  exact HP.out
end Go.Proofs.YtamkfadammlhbaaGreatDoor
