/- Texts one behind the other, each in a section of its own: what calls make of memory, step by step. -/
import Derived.Test.YtdjoahhcmkedhaaGreatDoorPackTreeBad4

/- rename over what stands. -/
section
namespace Go.Proofs.YtdjoahhcmkedhaaGreatDoor
open Go.RowKit
open Go.ChangeMaps (setBlock)
set_option linter.unusedVariables false
set_option linter.unusedSimpArgs false
set_option maxRecDepth 100000

theorem foot_takeTx {T : Tr} {j : Int} {nd : Nd} {k : Nat} {name : ByteArray} {i : Int} {f : Nd} (h : At T j nd k) (hs : look nd.kids name = some i) (g : Fl T i f) : (takeTx T j name).foot = T.foot := by
  rw [takeTx_of h.there hs g.there]
  have hj2 : look (T.setN i { f with places := f.places - 1 }).nodes j = some nd := by unfold Tr.setN; rw [look_put, if_neg (h.ne g)]; exact h.there
  exact (setN_foot (n' := { nd with kids := del nd.kids name }) hj2 rfl rfl).trans (setN_foot (n' := { f with places := f.places - 1 }) g.there rfl rfl)
set_option maxHeartbeats 2000000 in
/-- To where something stands: a directory, or the file itself. -/
theorem rename_still {w0 w : World} {S : Blocks} {L : List Rw} {t : Nat} {T : Tr} (hO : Own ⟨w0, S⟩ w L) (H : Tree S (Pc L) t T) {jb i old : Int} {nda ndb fo : Nd} {kb : Nat} (hb : At T jb ndb kb) {na nb : ByteArray} (hx : look ndb.kids nb = some old) (ho : look T.nodes old = some fo)
    {c : Int} (hc : (fo.k.isSome = true ∧ c = 10) ∨ (fo.k.isSome = false ∧ old = i ∧ c = 0)) :
    Calls Tryz.prog 91 #[.pointer (some ⟨t, 0, none⟩), .agg #[.pointer (some ⟨nda.b, 0, none⟩), .string na], .agg #[.pointer (some ⟨ndb.b, 0, none⟩), .string nb], .int .i64 i] w (DoL w0 S L t T w (fun T2 => T2 = T) (.int .i64 c)) := by
  obtain ⟨w1, S2, hw1, hsz, hO1, H1, m1, m2, hsub, hlt, hlow⟩ := two_boxes hO H (boxP nda na) (boxP ndb nb)
  have q0 : w1.drew.cell? ⟨w.heap.size + 1, 0, none⟩ = some (.pointer (some ⟨ndb.b, 0, none⟩)) := by rw [hO1.cellB m2]; rfl
  have q1 : w1.drew.cell? ⟨w.heap.size + 1, 1, none⟩ = some (.string nb) := by rw [hO1.cellB m2]; rfl
  have hNW := (H1.at_.inWorld hO1).node _ (look_mem hb.there)
  obtain ⟨c0, _, _⟩ := hNW.at0
  rw [hb.dir] at c0
  have hl := hNW.look hb.dir nb
  rw [hx] at hl
  dsimp only [Option.getD_some, Option.isSome_some] at hl
  have c2 := (H1.at_.inWorld hO1).at0.2.2
  have hl2 := (H1.at_.inWorld hO1).look old
  rw [ho] at hl2
  dsimp only [ptrOf] at hl2
  have hdir := dir_any ((H1.at_.inWorld hO1).node _ (look_mem ho))
  have HP := Lib.hid (show ∀ c : Int, DoL w0 S L t T w (fun T2 => T2 = T) (.int .i64 c) (.returned (.int .i64 c)) w1.drew from fun c => ⟨S2, L, T, rfl, hO1, fun _ h => h, H1, ⟨fun b x hb _ => hsub b x hb, fun b hb => .inl hb⟩, rfl⟩)
  rcases hc with ⟨h1, rfl⟩ | ⟨h1, rfl, rfl⟩
  · rw [h1] at hdir
    clear hO H hO1 H1 hb hx hNW m1 m2 hsub hlt hlow hsz ho h1
    go_enter Tryz.func91, Tryz.ntmps91
    go_wp2_with fail
    rw [← hw1]
    clear hw1
    go_region
    go_wp2_with (go_at_call 58; refine hdir.mono ?_; rintro e w' ⟨rfl, rfl⟩)
    go_ret
    exact HP.out _
  · rw [h1] at hdir
    clear hO H hO1 H1 hb hx hNW m1 m2 hsub hlt hlow hsz ho h1
    go_enter Tryz.func91, Tryz.ntmps91
    go_wp2_with fail
    rw [← hw1]
    clear hw1
    go_region
    go_wp2_with (go_at_call 58; refine hdir.mono ?_; rintro e w' ⟨rfl, rfl⟩)
    go_ret
    exact HP.out _
set_option maxHeartbeats 2000000 in
/-- Over another file. -/
theorem rename_over {w0 w : World} {S : Blocks} {L : List Rw} {t : Nat} {T : Tr} (hO : Own ⟨w0, S⟩ w L) (H : Tree S (Pc L) t T) {ja jb i old : Int} {nda ndb f fo : Nd} {ka kb : Nat} (ha : At T ja nda ka) (hb : At T jb ndb kb) {na nb : ByteArray} (hs : look nda.kids na = some i) (g : Fl T i f) (hp : 1 ≤ f.places)
    (hx : look ndb.kids nb = some old) (go : Fl T old fo) (hne : old ≠ i) :
    Calls Tryz.prog 91 #[.pointer (some ⟨t, 0, none⟩), .agg #[.pointer (some ⟨nda.b, 0, none⟩), .string na], .agg #[.pointer (some ⟨ndb.b, 0, none⟩), .string nb], .int .i64 i] w (DoL w0 S L t T w (fun T2 => T2 = putTx (takeTx (takeTx T jb nb) ja na) jb nb i) (.int .i64 0)) := by
  obtain ⟨w1, S2, hw1, hsz, hO1, H1, m1, m2, hsub, hlt, hlow⟩ := two_boxes hO H (boxP nda na) (boxP ndb nb)
  have p0 : w1.drew.cell? ⟨w.heap.size, 0, none⟩ = some (.pointer (some ⟨nda.b, 0, none⟩)) := by rw [hO1.cellB m1]; rfl
  have p1 : w1.drew.cell? ⟨w.heap.size, 1, none⟩ = some (.string na) := by rw [hO1.cellB m1]; rfl
  have q0 : w1.drew.cell? ⟨w.heap.size + 1, 0, none⟩ = some (.pointer (some ⟨ndb.b, 0, none⟩)) := by rw [hO1.cellB m2]; rfl
  have q1 : w1.drew.cell? ⟨w.heap.size + 1, 1, none⟩ = some (.string nb) := by rw [hO1.cellB m2]; rfl
  have hNW := (H1.at_.inWorld hO1).node _ (look_mem hb.there)
  obtain ⟨c0, _, _⟩ := hNW.at0
  rw [hb.dir] at c0
  have hl := hNW.look hb.dir nb
  rw [hx] at hl
  dsimp only [Option.getD_some, Option.isSome_some] at hl
  have c2 := (H1.at_.inWorld hO1).at0.2.2
  have hl2 := (H1.at_.inWorld hO1).look old
  rw [go.there] at hl2
  dsimp only [ptrOf] at hl2
  have hdir := dir_any ((H1.at_.inWorld hO1).node _ (look_mem go.there))
  rw [show fo.k.isSome = false by rw [go.file]; rfl] at hdir
  have hq : (old == i) = false := by simpa using hne
  have hT0 : Calls Tryz.prog 89 #[.pointer (some ⟨t, 0, none⟩), .agg #[.pointer (some ⟨ndb.b, 0, none⟩), .string nb]] w1.drew (fun e w2 => e = .returned (.tuple #[]) ∧ w2.cell? ⟨w.heap.size, 0, none⟩ = some (.pointer (some ⟨nda.b, 0, none⟩)) ∧ w2.cell? ⟨w.heap.size, 1, none⟩ = some (.string na) ∧
      Calls Tryz.prog 89 #[.pointer (some ⟨t, 0, none⟩), .agg #[.pointer (some ⟨nda.b, 0, none⟩), .string na]] w2 (fun e w3 => e = .returned (.tuple #[]) ∧ w3.cell? ⟨w.heap.size + 1, 0, none⟩ = some (.pointer (some ⟨ndb.b, 0, none⟩)) ∧ w3.cell? ⟨w.heap.size + 1, 1, none⟩ = some (.string nb) ∧
        Calls Tryz.prog 88 #[.pointer (some ⟨t, 0, none⟩), .agg #[.pointer (some ⟨ndb.b, 0, none⟩), .string nb], .int .i64 i] w3 (fun e w4 => e = .returned (.tuple #[]) ∧ DoL w0 S L t T w (fun T2 => T2 = putTx (takeTx (takeTx T jb nb) ja na) jb nb i) (.int .i64 0) (.returned (.int .i64 0)) w4))) :=
    (take_on hO1 H1 hb hx go).mono fun e w2 hd => by
      obtain ⟨e1, S3, h1, h2, h3⟩ := hd
      have n1 := h3.kept _ _ m1 (fun hm => by have := hlow _ hm; omega)
      have n2 := h3.kept _ _ m2 (fun hm => by have := hlow _ hm; omega)
      obtain ⟨nda2, x1, x2, x3, x4⟩ := hb.behind (name := nb) go ha
      obtain ⟨ndb2, y1, y2, _, _⟩ := hb.behind (name := nb) go hb
      have g1 : Fl (takeT T jb ndb nb old fo) i f := ⟨by rw [look_takeT, if_neg (hb.ne g).symm, if_neg (fun e => hne e.symm)]; exact g.there, g.file, g.low, g.high⟩
      have hs2 : look nda2.kids na = some i := by
        by_cases e : ja = jb
        · have e2 : nda = ndb := by have h1 := ha.there; rw [e, hb.there] at h1; injection h1 with h1; exact h1.symm
          rw [x4 e, look_del_ne, hs]
          intro e3
          rw [e2, e3, hx] at hs
          injection hs with hs
          exact hne hs
        · rw [x3 e]; exact hs
      rw [← takeTx_of hb.there hx go.there] at x1 y1 g1
      have n1' : (w.heap.size, boxP nda2 na) ∈ S3 := by unfold boxP; rw [x2]; exact n1
      have n2' : (w.heap.size + 1, boxP ndb2 nb) ∈ S3 := by unfold boxP; rw [y2]; exact n2
      have hft := foot_takeTx hb hx go
      have hsz2 : w.heap.size + 2 ≤ w2.heap.size := by have := (h1.atLt n2).2; omega
      have hT := take_put (w := w) (T0 := T) (m := w.heap.size) h1 h2 x1 y1 hs2 g1 hp n1' n2' (by rw [hft]; exact hlow) hsz2 (Frame.more hsub h3 (by show _ ≤ w1.heap.size; omega) hlt) (Nat.le_refl _) hlt
      rw [x2, y2] at hT
      refine ⟨e1, by rw [h1.cellB n1]; rfl, by rw [h1.cellB n1]; rfl, hT.mono fun e w3 hd => ?_⟩
      obtain ⟨e2, _, _, r0, r1, hput⟩ := hd
      refine ⟨e2, r0, r1, hput.mono fun e w4 hd => ?_⟩
      obtain ⟨e3, S', k1, k2, k3⟩ := hd
      exact ⟨e3, S', L, _, rfl, k1, fun _ h => h, k2, k3, rfl⟩
  clear hO H hO1 H1 ha hb hx hNW hs g hp m1 m2 hsub hlt hlow hsz go hne
  go_enter Tryz.func91, Tryz.ntmps91
  go_wp2_with fail
  rw [← hw1]
  clear hw1
  go_region
  go_wp2_with (go_at_call 58; refine hdir.mono ?_; rintro e w' ⟨rfl, rfl⟩)
  refine hT0.mono ?_
  rintro e w2 ⟨rfl, r0, r1, hT⟩
  clear p0 p1 q0 q1 c0 hl hT0
  go_wp2_with fail
  refine hT.mono ?_
  rintro e w3 ⟨rfl, s0, s1, hput⟩
  clear r0 r1 hT
  go_wp2_with fail
  refine hput.mono ?_
  rintro e w4 ⟨rfl, hD⟩
  have HP := Lib.hid hD
  clear hD hput
  go_wp2_with fail
  go_ret
  exact HP.out
end Go.Proofs.YtdjoahhcmkedhaaGreatDoor
end

/- turn. -/
section
namespace Go.Proofs.YtdjoahhcmkedhaaGreatDoor
open Go.RowKit
open Go.ChangeMaps (setBlock)
set_option linter.unusedVariables false
set_option linter.unusedSimpArgs false
set_option maxRecDepth 100000

theorem DoL.more {w0 w w2 w' : World} {S S2 : Blocks} {L : List Rw} {t : Nat} {T : Tr} {R : Tr → Prop} {r : Value} {e : Ending} (h : DoL w0 S2 L t T w2 R r e w') (hs : ∀ b x, (b, x) ∈ S → (b, x) ∈ S2) (hw : w.heap.size ≤ w2.heap.size) (hlt : ∀ b x, (b, x) ∈ S → b < w.heap.size) : DoL w0 S L t T w R r e w' := by
  obtain ⟨S', L', T', h1, h2, h3, h4, h5, h6⟩ := h
  exact ⟨S', L', T', h1, h2, h3, h4, Frame.more hs h5 hw hlt, h6⟩
theorem two_boxes0 {w0 w : World} {S : Blocks} {L : List Rw} {t : Nat} {T : Tr} (hO : Own ⟨w0, S⟩ w L) (H : Tree S (Pc L) t T) (P Q : Obj) : ∃ w1 S2, w1 = (w.alloc P).alloc Q ∧ w1.heap.size = w.heap.size + 2 ∧ Own ⟨w0, S2⟩ w1 L ∧ Tree S2 (Pc L) t T ∧ (w.heap.size, P) ∈ S2 ∧ (w.heap.size + 1, Q) ∈ S2 ∧ (∀ b x, (b, x) ∈ S → (b, x) ∈ S2) ∧ (∀ b x, (b, x) ∈ S → b < w.heap.size) ∧ (∀ b ∈ t :: T.foot, b < w.heap.size) := by
  have h2 := (hO.newB P).newB Q
  rw [show (w.alloc P).heap.size = w.heap.size + 1 by simp] at h2
  refine ⟨_, (w.heap.size + 1, Q) :: (w.heap.size, P) :: S, rfl, by simp, h2, H.mono (fun b x _ hx => List.mem_cons_of_mem _ (List.mem_cons_of_mem _ hx)) (fun _ _ h => h), List.mem_cons_of_mem _ (List.mem_cons_self ..), List.mem_cons_self .., fun b x hb => List.mem_cons_of_mem _ (List.mem_cons_of_mem _ hb), fun b x hb => (hO.atLt hb).2, fun b hb => ?_⟩
  obtain ⟨x, hx⟩ := kept_in H.at_ b hb
  exact (hO.atLt hx).2
set_option maxHeartbeats 2000000 in
theorem turn_unlink {w0 w : World} {S : Blocks} {L : List Rw} {t : Nat} {T : Tr} (hO : Own ⟨w0, S⟩ w L) (H : Tree S (Pc L) t T) {ja i : Int} {nda f : Nd} {ka : Nat} (ha : At T ja nda ka) {na : ByteArray} (hs : look nda.kids na = some i) (g : Fl T i f)
    (p q : ByteArray) (v : Value) (hv : ∃ a n c, v = .slice a n c) :
    Calls Tryz.prog 68 #[.pointer (some ⟨t, 0, none⟩), .agg #[.pointer (some ⟨nda.b, 0, none⟩), .string na], .int .i64 i, .agg (opL 6 p q v).toArray] w (DoL w0 S L t T w (fun T2 => T2 = takeTx T ja na) (.int .i64 0)) := by
  obtain ⟨va, vn, vc, rfl⟩ := hv
  obtain ⟨w1, S2, hw1, hsz, hO2, H1, m1, m2, hsub, hlt, hlow⟩ := two_boxes0 hO H (boxP nda na) (.cells #[.int .i64 6, .string p, .string q, .slice va vn vc] 38)
  have p0 : w1.cell? ⟨w.heap.size, 0, none⟩ = some (.pointer (some ⟨nda.b, 0, none⟩)) := by rw [hO2.cellB m1]; rfl
  have p1 : w1.cell? ⟨w.heap.size, 1, none⟩ = some (.string na) := by rw [hO2.cellB m1]; rfl
  have q0 : w1.cell? ⟨w.heap.size + 1, 0, none⟩ = some (.int .i64 6) := by rw [hO2.cellB m2]; rfl
  have hT : Calls Tryz.prog 89 #[.pointer (some ⟨t, 0, none⟩), .agg #[.pointer (some ⟨nda.b, 0, none⟩), .string na]] w1 (fun e w2 => e = .returned (.tuple #[]) ∧ DoL w0 S L t T w (fun T2 => T2 = takeTx T ja na) (.int .i64 0) (.returned (.int .i64 0)) w2) :=
    (take_on hO2 H1 ha hs g).mono fun e w2 hd => by
      obtain ⟨e1, S3, h1, h2, h3⟩ := hd
      exact ⟨e1, S3, L, _, rfl, h1, fun _ h => h, h2, Frame.more hsub h3 (by omega) hlt, rfl⟩
  rw [hw1] at p0 p1 q0 hT
  clear hO H H1 ha hs g m1 m2 hsub hlt hlow hsz hO2 hw1
  go_enter Tryz.func68, Tryz.ntmps68
  go_wp2_with fail
  refine hT.mono ?_
  rintro e w2 ⟨rfl, hD⟩
  have HP := Lib.hid hD
  clear hD
  go_wp2_with fail
  go_ret
  exact HP.out
set_option maxHeartbeats 2000000 in
theorem turn_write {w0 w : World} {S : Blocks} {L : List Rw} {t : Nat} {T : Tr} (hO : Own ⟨w0, S⟩ w L) (H : Tree S (Pc L) t T) {i : Int} {nda f : Nd} {na : ByteArray} (g : Fl T i f)
    (p q : ByteArray) (v : Value) (zs : List Int) (hv : Byo w0 S (t :: T.foot) L v zs) (hlen : zs.length ≤ 140737488355328) :
    Calls Tryz.prog 68 #[.pointer (some ⟨t, 0, none⟩), .agg #[.pointer (some ⟨nda.b, 0, none⟩), .string na], .int .i64 i, .agg (opL 3 p q v).toArray] w (DoL w0 S L t T w (fun T2 => ∃ f2 : Nd, f2.er = { f.er with data := zs } ∧ T2 = T.setN i f2) (.int .i64 0)) := by
  have hcl0 := fun (w' : World) (S' : Blocks) (hs : ∀ b x, (b, x) ∈ S → b ∉ t :: T.foot → (b, x) ∈ S') (h : Own ⟨w0, S'⟩ w' L) => clone_any v zs w' (hv.by hs h) hlen
  have hz : Byts zs := (hv.by (fun _ _ h _ => h) hO).2.1
  obtain ⟨va, vc, rfl⟩ := hv.form
  obtain ⟨vn, hvn⟩ : ∃ vn, vn = zs.length := ⟨_, rfl⟩
  rw [← hvn] at hcl0 ⊢
  obtain ⟨w1, S2, hw1, hsz, hO2, H1, m1, m2, hsub, hlt, hlow⟩ := two_boxes0 hO H (boxP nda na) (.cells #[.int .i64 3, .string p, .string q, .slice va vn vc] 38)
  have hO1 := hO2.drew
  have hcl := hcl0 _ _ (fun b x hb _ => hsub b x hb) hO1
  have q0 : w1.cell? ⟨w.heap.size + 1, 0, none⟩ = some (.int .i64 3) := by rw [hO2.cellB m2]; rfl
  have hF := H1.at_.node _ (look_mem g.there)
  have hs1 : w1.drew.cell? ⟨t, 2, none⟩ = some (.map (some T.bm)) ∧ w1.drew.cell? ⟨w.heap.size + 1, 3, none⟩ = some (.slice va vn vc) := ⟨(H1.at_.inWorld hO1).at0.2.2, by rw [hO1.cellB m2]; rfl⟩
  have hl1 := (H1.at_.inWorld hO1).look i
  rw [g.there] at hl1
  dsimp only [ptrOf] at hl1
  have hgen : ∀ (w7 : World) (a7 : Option Addr) (c7 : Nat), Own w1.drew w7 [rowU (.slice a7 zs.length c7) zs] →
      (w7.cell? ⟨t, 2, none⟩ = some (.map (some T.bm)) ∧ w7.cell? ⟨w.heap.size + 1, 3, none⟩ = some (.slice va vn vc)) ∧
      (Instr.lookup 73 (.map (some T.bm)) (.int .i64 i) false).run Tryz.prog w7 = .ok (.pointer (some ⟨f.b, 0, none⟩)) w7 ∧
      w7.cell? ⟨f.b, 1, none⟩ = some f.dv ∧ w7.frozen? ⟨f.b, 1, none⟩ = false ∧
      ((w7.setCell ⟨f.b, 1, none⟩ (.slice a7 zs.length c7)).cell? ⟨t, 2, none⟩ = some (.map (some T.bm)) ∧ (w7.setCell ⟨f.b, 1, none⟩ (.slice a7 zs.length c7)).cell? ⟨w.heap.size + 1, 3, none⟩ = some (.slice va vn vc)) ∧
      DoL w0 S L t T w (fun T2 => ∃ f2 : Nd, f2.er = { f.er with data := zs } ∧ T2 = T.setN i f2) (.int .i64 0) (.returned (.int .i64 0)) (w7.setCell ⟨f.b, 1, none⟩ (.slice a7 zs.length c7)) := by
    intro w7 a7 c7 h7
    have g7 := hO1.join h7
    have hpc : Pc ([rowU (.slice a7 zs.length c7) zs] ++ L) (.slice a7 zs.length c7) zs := Pc.all g7 hz
    have H7 := H1.mono (D2 := Pc ([rowU (.slice a7 zs.length c7) zs] ++ L)) (fun b x _ hx => hx) (fun v zs h => h.mono fun r hr => List.mem_append_right _ hr)
    have hl7 := (H7.at_.inWorld g7).look i
    rw [g.there] at hl7
    have H8 := H7.setCells g.there { f with dv := .slice a7 zs.length c7, data := zs } rfl rfl rfl hpc ⟨a7, c7, rfl⟩
    have g8 := g7.storeB hF.cells 1 (.slice a7 zs.length c7)
    have hfb := foot_node g.there
    have hmx : (w.heap.size + 1) ≠ f.b := fun e => by have := hlow f.b (List.mem_cons_of_mem _ hfb.1); omega
    have m2' := upd_other m2 hmx (.cells (nodeCells { f with dv := .slice a7 zs.length c7, data := zs }) 86)
    have g8' : Own ⟨w0, upd S2 f.b (.cells (nodeCells { f with dv := .slice a7 zs.length c7, data := zs }) 86)⟩ (w7.setCell ⟨f.b, 1, none⟩ (.slice a7 zs.length c7)) ([rowU (.slice a7 zs.length c7) zs] ++ L) := g8
    refine ⟨⟨(H7.at_.inWorld g7).at0.2.2, by rw [g7.cellB m2]; rfl⟩, hl7, by rw [g7.cellB hF.cells]; rfl, free_at (g7.at hF.cells) 1, ⟨(H8.at_.inWorld g8').at0.2.2, by rw [g8'.cellB m2']; rfl⟩, _, _, _, rfl, g8', fun r hr => List.mem_append_right _ hr, H8, ?_, _, rfl, rfl⟩
    have e : (T.setN i { f with dv := .slice a7 zs.length c7, data := zs }).foot = T.foot := setN_foot g.there rfl rfl
    refine ⟨fun b x hb hnb => upd_other (hsub b x hb) (fun e => hnb (e ▸ List.mem_cons_of_mem _ hfb.1)) _, fun b hb => .inl (by rwa [e] at hb)⟩
  have hfd := hF.form
  obtain ⟨fa, fc, hfv⟩ := hfd
  rw [hfv] at hgen
  rw [hw1] at q0
  clear hO H hO1 H1 m1 m2 hsub hlt hlow hsz hO2 hF hv hlen hcl0 hvn g hfv
  go_enter Tryz.func68, Tryz.ntmps68
  go_wp2_with fail
  rw [← hw1]
  clear hw1
  go_region_held3 (fun w' : World => w'.cell? ⟨t, 2, none⟩ = some (.map (some T.bm)) ∧ w'.cell? ⟨w.heap.size + 1, 3, none⟩ = some (.slice va vn vc)) (first | exact hs1 | exact s3 | exact s1) (first | (go_at_call 59; refine hcl.mono ?_; rintro e w7 ⟨v7, rfl, h7⟩; obtain ⟨a7, c7, rfl, _, _⟩ := Own.sized (h := (show Own w1.drew w7 (⟨5, 1, v7, zs.length, bs zs⟩ :: []) from h7)); obtain ⟨s1, hl7, f1, fz1, s3, hD⟩ := hgen w7 a7 c7 h7))
  all_goals (have HP := Lib.hid hD)
  all_goals clear hD hgen hcl
  all_goals go_wp2_with fail
  all_goals go_ret
  all_goals exact HP.out
end Go.Proofs.YtdjoahhcmkedhaaGreatDoor
end

/- turn, of what has a second path. -/
section
namespace Go.Proofs.YtdjoahhcmkedhaaGreatDoor
open Go.RowKit
open Go.ChangeMaps (setBlock)
set_option linter.unusedVariables false
set_option linter.unusedSimpArgs false
set_option maxRecDepth 100000

set_option maxHeartbeats 2000000 in
theorem turn_bad {w0 w : World} {S : Blocks} {L : List Rw} {t : Nat} {T : Tr} (hO : Own ⟨w0, S⟩ w L) (H : Tree S (Pc L) t T) (hm : Mx w) {i : Int} {nda : Nd} {na : ByteArray} {κ : Int} (hκ : κ = 4 ∨ κ = 5)
    (p q : ByteArray) (hq : q.size ≤ maxLen) (v : Value) (hv : ∃ a n c, v = .slice a n c) {c : Int} (hc : placeT T q.data.toList = (c, none)) (hc0 : (c != 0) = true) :
    Calls Tryz.prog 68 #[.pointer (some ⟨t, 0, none⟩), .agg #[.pointer (some ⟨nda.b, 0, none⟩), .string na], .int .i64 i, .agg (opL κ p q v).toArray] w (DoL w0 S L t T w (fun T2 => T2 = T) (.int .i64 c)) := by
  obtain ⟨va, vn, vc, rfl⟩ := hv
  obtain ⟨w1, S2, hw1, hsz, hO2, H1, m1, m2, hsub, hlt, hlow⟩ := two_boxes0 hO H (boxP nda na) (.cells #[.int .i64 κ, .string p, .string q, .slice va vn vc] 38)
  have q0 : w1.cell? ⟨w.heap.size + 1, 0, none⟩ = some (.int .i64 κ) := by rw [hO2.cellB m2]; rfl
  have q2 : w1.cell? ⟨w.heap.size + 1, 2, none⟩ = some (.string q) := by rw [hO2.cellB m2]; rfl
  have hB1 : Below w.heap.size w w1 := by rw [hw1]; exact ((Below.refl _ w).alloc (Nat.le_refl _) _).alloc (by simp) _
  have hpl := place_any (H1.at_.inWorld hO2) H.good q hq (hm.later hB1)
  rw [hc] at hpl
  have hD : ∀ w', Own ⟨w0, S2⟩ w' L → DoL w0 S L t T w (fun T2 => T2 = T) (.int .i64 c) (.returned (.int .i64 c)) w' := fun w' h => ⟨S2, L, T, rfl, h, fun _ h => h, H1, ⟨fun b x hb _ => hsub b x hb, fun b hb => .inl hb⟩, rfl⟩
  have HO2 := Lib.hid hO2
  have k3 : (κ == 3) = false := by rcases hκ with rfl | rfl <;> rfl
  have k6 : (κ == 6) = false := by rcases hκ with rfl | rfl <;> rfl
  rw [hw1] at q0 q2 hpl
  clear hO H hO2 H1 m1 m2 hsub hlt hlow hsz hc hm hB1 hκ
  dsimp only [placeL, zP] at hpl
  go_enter Tryz.func68, Tryz.ntmps68
  go_wp2_with fail
  refine hpl.mono ?_
  rintro e w2 ⟨rfl, hb⟩
  rw [← hw1] at hb
  have hO3 := HO2.out.later hb
  have HD := Lib.hid (hD _ (hO3.alloc (.cells #[.pointer none, .string ⟨#[]⟩] 115)))
  clear q0 q2 hpl hw1 hb hO3 hD
  go_wp2_with fail
  go_ret
  exact HD.out
set_option maxHeartbeats 2000000 in
theorem turn_link {w0 w : World} {S : Blocks} {L : List Rw} {t : Nat} {T T' : Tr} (hO : Own ⟨w0, S⟩ w L) (H : Tree S (Pc L) t T) (hm : Mx w) {i : Int} {nda : Nd} {na : ByteArray}
    (p q : ByteArray) (hq : q.size ≤ maxLen) (v : Value) (hv : ∃ a n c, v = .slice a n c) {jb : Int} {ndb : Nd} {z : List UInt8} (hc : placeT T q.data.toList = (0, some (jb, ndb, z))) {c : Int}
    (hcall : ∀ S' w', Own ⟨w0, S'⟩ w' L → Tree S' (Pc L) t T → Calls Tryz.prog 90 #[.pointer (some ⟨t, 0, none⟩), .agg #[.pointer (some ⟨ndb.b, 0, none⟩), .string (toB z)], .int .i64 i] w' (DoL w0 S' L t T w' (fun T2 => T2 = T') (.int .i64 c))) :
    Calls Tryz.prog 68 #[.pointer (some ⟨t, 0, none⟩), .agg #[.pointer (some ⟨nda.b, 0, none⟩), .string na], .int .i64 i, .agg (opL 4 p q v).toArray] w (DoL w0 S L t T w (fun T2 => T2 = T') (.int .i64 c)) := by
  obtain ⟨va, vn, vc, rfl⟩ := hv
  obtain ⟨w1, S2, hw1, hsz, hO2, H1, m1, m2, hsub, hlt, hlow⟩ := two_boxes0 hO H (boxP nda na) (.cells #[.int .i64 4, .string p, .string q, .slice va vn vc] 38)
  have q0 : w1.cell? ⟨w.heap.size + 1, 0, none⟩ = some (.int .i64 4) := by rw [hO2.cellB m2]; rfl
  have q2 : w1.cell? ⟨w.heap.size + 1, 2, none⟩ = some (.string q) := by rw [hO2.cellB m2]; rfl
  have hB1 : Below w.heap.size w w1 := by rw [hw1]; exact ((Below.refl _ w).alloc (Nat.le_refl _) _).alloc (by simp) _
  have hpl := place_any (H1.at_.inWorld hO2) H.good q hq (hm.later hB1)
  rw [hc] at hpl
  have HO2 := Lib.hid hO2
  have hgen : ∀ w2, Own ⟨w0, S2⟩ w2 L → w.heap.size ≤ w2.heap.size → (w2.alloc (boxP ndb (toB z))).cell? ⟨w.heap.size, 0, none⟩ = some (.pointer (some ⟨nda.b, 0, none⟩)) ∧ (w2.alloc (boxP ndb (toB z))).cell? ⟨w.heap.size, 1, none⟩ = some (.string na) ∧ (w2.alloc (boxP ndb (toB z))).cell? ⟨w.heap.size + 1, 0, none⟩ = some (.int .i64 4) ∧
      Calls Tryz.prog 90 #[.pointer (some ⟨t, 0, none⟩), .agg #[.pointer (some ⟨ndb.b, 0, none⟩), .string (toB z)], .int .i64 i] (w2.alloc (boxP ndb (toB z))) (fun e w' => e = .returned (.int .i64 c) ∧ DoL w0 S L t T w (fun T2 => T2 = T') (.int .i64 c) (.returned (.int .i64 c)) w') := by
    intro w2 h2 h3
    have h4 := h2.alloc (boxP ndb (toB z))
    refine ⟨by rw [h4.cellB m1]; rfl, by rw [h4.cellB m1]; rfl, by rw [h4.cellB m2]; rfl, (hcall S2 _ h4 H1).mono fun e w' hd => ?_⟩
    have e1 : e = .returned (.int .i64 c) := hd.choose_spec.choose_spec.choose_spec.1
    subst e1
    exact ⟨rfl, hd.more hsub (by simp; omega) hlt⟩
  have hsz1 : w.heap.size ≤ w1.heap.size := by omega
  rw [hw1] at q0 q2 hpl
  clear hO H hO2 H1 m1 m2 hsub hlt hlow hsz hc hm hB1 hcall
  dsimp only [placeL] at hpl
  go_enter Tryz.func68, Tryz.ntmps68
  go_wp2_with fail
  refine hpl.mono ?_
  rintro e w2 ⟨rfl, hb⟩
  rw [← hw1] at hb
  have hO3 := HO2.out.later hb
  obtain ⟨r0, r1, r2, hcl⟩ := hgen w2 hO3 (Nat.le_trans hsz1 hb.size)
  clear q0 q2 hpl hw1 hb hO3 hgen hsz1 HO2
  go_wp2_with fail
  refine hcl.mono ?_
  rintro e w3 ⟨rfl, hD⟩
  have HD := Lib.hid hD
  clear hD hcl
  go_wp2_with fail
  go_ret
  exact HD.out
set_option maxHeartbeats 2000000 in
theorem turn_rename {w0 w : World} {S : Blocks} {L : List Rw} {t : Nat} {T T' : Tr} (hO : Own ⟨w0, S⟩ w L) (H : Tree S (Pc L) t T) (hm : Mx w) {i : Int} {nda : Nd} {na : ByteArray}
    (p q : ByteArray) (hq : q.size ≤ maxLen) (v : Value) (hv : ∃ a n c, v = .slice a n c) {jb : Int} {ndb : Nd} {z : List UInt8} (hc : placeT T q.data.toList = (0, some (jb, ndb, z))) {c : Int}
    (hcall : ∀ S' w', Own ⟨w0, S'⟩ w' L → Tree S' (Pc L) t T → Calls Tryz.prog 91 #[.pointer (some ⟨t, 0, none⟩), .agg #[.pointer (some ⟨nda.b, 0, none⟩), .string na], .agg #[.pointer (some ⟨ndb.b, 0, none⟩), .string (toB z)], .int .i64 i] w' (DoL w0 S' L t T w' (fun T2 => T2 = T') (.int .i64 c))) :
    Calls Tryz.prog 68 #[.pointer (some ⟨t, 0, none⟩), .agg #[.pointer (some ⟨nda.b, 0, none⟩), .string na], .int .i64 i, .agg (opL 5 p q v).toArray] w (DoL w0 S L t T w (fun T2 => T2 = T') (.int .i64 c)) := by
  obtain ⟨va, vn, vc, rfl⟩ := hv
  obtain ⟨w1, S2, hw1, hsz, hO2, H1, m1, m2, hsub, hlt, hlow⟩ := two_boxes0 hO H (boxP nda na) (.cells #[.int .i64 5, .string p, .string q, .slice va vn vc] 38)
  have q0 : w1.cell? ⟨w.heap.size + 1, 0, none⟩ = some (.int .i64 5) := by rw [hO2.cellB m2]; rfl
  have q2 : w1.cell? ⟨w.heap.size + 1, 2, none⟩ = some (.string q) := by rw [hO2.cellB m2]; rfl
  have hB1 : Below w.heap.size w w1 := by rw [hw1]; exact ((Below.refl _ w).alloc (Nat.le_refl _) _).alloc (by simp) _
  have hpl := place_any (H1.at_.inWorld hO2) H.good q hq (hm.later hB1)
  rw [hc] at hpl
  have HO2 := Lib.hid hO2
  have hgen : ∀ w2, Own ⟨w0, S2⟩ w2 L → w.heap.size ≤ w2.heap.size → (w2.alloc (boxP ndb (toB z))).cell? ⟨w.heap.size, 0, none⟩ = some (.pointer (some ⟨nda.b, 0, none⟩)) ∧ (w2.alloc (boxP ndb (toB z))).cell? ⟨w.heap.size, 1, none⟩ = some (.string na) ∧ (w2.alloc (boxP ndb (toB z))).cell? ⟨w.heap.size + 1, 0, none⟩ = some (.int .i64 5) ∧
      Calls Tryz.prog 91 #[.pointer (some ⟨t, 0, none⟩), .agg #[.pointer (some ⟨nda.b, 0, none⟩), .string na], .agg #[.pointer (some ⟨ndb.b, 0, none⟩), .string (toB z)], .int .i64 i] (w2.alloc (boxP ndb (toB z))) (fun e w' => e = .returned (.int .i64 c) ∧ DoL w0 S L t T w (fun T2 => T2 = T') (.int .i64 c) (.returned (.int .i64 c)) w') := by
    intro w2 h2 h3
    have h4 := h2.alloc (boxP ndb (toB z))
    refine ⟨by rw [h4.cellB m1]; rfl, by rw [h4.cellB m1]; rfl, by rw [h4.cellB m2]; rfl, (hcall S2 _ h4 H1).mono fun e w' hd => ?_⟩
    have e1 : e = .returned (.int .i64 c) := hd.choose_spec.choose_spec.choose_spec.1
    subst e1
    exact ⟨rfl, hd.more hsub (by simp; omega) hlt⟩
  have hsz1 : w.heap.size ≤ w1.heap.size := by omega
  rw [hw1] at q0 q2 hpl
  clear hO H hO2 H1 m1 m2 hsub hlt hlow hsz hc hm hB1 hcall
  dsimp only [placeL] at hpl
  go_enter Tryz.func68, Tryz.ntmps68
  go_wp2_with fail
  refine hpl.mono ?_
  rintro e w2 ⟨rfl, hb⟩
  rw [← hw1] at hb
  have hO3 := HO2.out.later hb
  obtain ⟨r0, r1, r2, hcl⟩ := hgen w2 hO3 (Nat.le_trans hsz1 hb.size)
  clear q0 q2 hpl hw1 hb hO3 hgen hsz1 HO2
  go_wp2_with fail
  refine hcl.mono ?_
  rintro e w3 ⟨rfl, hD⟩
  have HD := Lib.hid hD
  clear hD hcl
  go_wp2_with fail
  go_ret
  exact HD.out
end Go.Proofs.YtdjoahhcmkedhaaGreatDoor
end

/- do, where all goes well. -/
section
namespace Go.Proofs.YtdjoahhcmkedhaaGreatDoor
open Go.RowKit
open Go.ChangeMaps (setBlock)
set_option linter.unusedVariables false
set_option linter.unusedSimpArgs false
set_option maxRecDepth 100000

theorem DoL.ret {w0 w w' : World} {S : Blocks} {L : List Rw} {t : Nat} {T : Tr} {R : Tr → Prop} {r : Value} {e : Ending} (h : DoL w0 S L t T w R r e w') (r' : Value) : e = .returned r ∧ DoL w0 S L t T w R r' (.returned r') w' := by
  obtain ⟨S', L', T', h1, h2, h3, h4, h5, h6⟩ := h
  exact ⟨h1, S', L', T', rfl, h2, h3, h4, h5, h6⟩
theorem one_box {w0 w : World} {S : Blocks} {L : List Rw} {t : Nat} {T : Tr} (hO : Own ⟨w0, S⟩ w L) (H : Tree S (Pc L) t T) (P : Obj) : ∃ w1 S2, w1 = w.alloc P ∧ w1.heap.size = w.heap.size + 1 ∧ Own ⟨w0, S2⟩ w1 L ∧ Tree S2 (Pc L) t T ∧ (w.heap.size, P) ∈ S2 ∧ (∀ b x, (b, x) ∈ S → (b, x) ∈ S2) ∧ (∀ b x, (b, x) ∈ S → b < w.heap.size) ∧ Below w.heap.size w w1 :=
  ⟨_, (w.heap.size, P) :: S, rfl, by simp, hO.newB P, H.mono (fun b x _ hx => List.mem_cons_of_mem _ hx) (fun _ _ h => h), List.mem_cons_self .., fun b x hb => List.mem_cons_of_mem _ hb, fun b x hb => (hO.atLt hb).2, (Below.refl _ w).alloc (Nat.le_refl _) _⟩
set_option maxHeartbeats 4000000 in
theorem do_grow0 {w0 w : World} {S : Blocks} {L : List Rw} {t : Nat} {T : Tr} (hO : Own ⟨w0, S⟩ w L) (H : Tree S (Pc L) t T) (hm : Mx w) (p q : ByteArray) (hp : p.size ≤ maxLen) {va : Option Addr} {vn vc : Nat} (hvn : vn ≤ 3500)
    {j : Int} {nd : Nd} {k : Nat} {z : List UInt8} (hc : placeT T p.data.toList = (0, some (j, nd, z))) (ha : At T j nd k) (hx : look nd.kids (toB z) = none) {R : Tr → Prop} 
    (hcall : ∀ S' w', Own ⟨w0, S'⟩ w' L → Tree S' (Pc L) t T → (∀ b x, (b, x) ∈ S → (b, x) ∈ S') → Mx w' → Calls Tryz.prog 66 #[.pointer (some ⟨t, 0, none⟩), .agg #[.pointer (some ⟨nd.b, 0, none⟩), .string (toB z)], .agg (opL 0 p q (.slice va vn vc)).toArray] w' (DoL w0 S' L t T w' R (.tuple #[]))) :
    Calls Tryz.prog 34 #[.pointer (some ⟨t, 0, none⟩), .agg (opL 0 p q (.slice va vn vc)).toArray] w (DoL w0 S L t T w R (.int .i64 0)) := by
  obtain ⟨w1, S2, hw1, hsz, hO2, H1, m1, hsub, hlt, hB1⟩ := one_box hO H (.cells #[.int .i64 0, .string p, .string q, .slice va vn vc] 38)
  have o0 : w1.cell? ⟨w.heap.size, 0, none⟩ = some (.int .i64 0) := by rw [hO2.cellB m1]; rfl
  have o1 : w1.cell? ⟨w.heap.size, 1, none⟩ = some (.string p) := by rw [hO2.cellB m1]; rfl
  have hpl := place_any (H1.at_.inWorld hO2) H.good p hp (hm.later hB1)
  rw [hc] at hpl
  have HO2 := Lib.hid hO2
  have hgen : ∀ w2, Own ⟨w0, S2⟩ w2 L → w.heap.size ≤ w2.heap.size → Mx w2 → (w2.alloc (boxP nd (toB z))).cell? ⟨w.heap.size, 3, none⟩ = some (.slice va vn vc) ∧
      ((w2.alloc (boxP nd (toB z))).drew.cell? ⟨w2.heap.size, 0, none⟩ = some (.pointer (some ⟨nd.b, 0, none⟩)) ∧ (w2.alloc (boxP nd (toB z))).drew.cell? ⟨w2.heap.size, 1, none⟩ = some (.string (toB z))) ∧
      ((w2.alloc (boxP nd (toB z))).drew.cell? ⟨w.heap.size, 0, none⟩ = some (.int .i64 0) ∧ (w2.alloc (boxP nd (toB z))).drew.cell? ⟨w.heap.size, 1, none⟩ = some (.string p) ∧ (w2.alloc (boxP nd (toB z))).drew.cell? ⟨w.heap.size, 2, none⟩ = some (.string q) ∧ (w2.alloc (boxP nd (toB z))).drew.cell? ⟨w.heap.size, 3, none⟩ = some (.slice va vn vc)) ∧
      (w2.alloc (boxP nd (toB z))).drew.cell? ⟨nd.b, 0, none⟩ = some (.map (some k)) ∧
      (Instr.lookup 84 (.map (some k)) (.string (toB z)) true).run Tryz.prog (w2.alloc (boxP nd (toB z))).drew = .ok (.tuple #[.int .i64 0, .bool false]) (w2.alloc (boxP nd (toB z))).drew ∧
      Calls Tryz.prog 66 #[.pointer (some ⟨t, 0, none⟩), .agg #[.pointer (some ⟨nd.b, 0, none⟩), .string (toB z)], .agg (opL 0 p q (.slice va vn vc)).toArray] (w2.alloc (boxP nd (toB z))).drew (fun e w' => e = .returned (.tuple #[]) ∧ DoL w0 S L t T w R (.int .i64 0) (.returned (.int .i64 0)) w') := by
    intro w2 h2 h3 hm2
    have h4 := h2.alloc (boxP nd (toB z))
    have h5 := h4.drew
    have b0 : (w2.alloc (boxP nd (toB z))).drew.cell? ⟨w2.heap.size, 0, none⟩ = some (.pointer (some ⟨nd.b, 0, none⟩)) := by show (w2.alloc _).cell? _ = _; rw [World.cell?_alloc_new]; rfl
    have b1 : (w2.alloc (boxP nd (toB z))).drew.cell? ⟨w2.heap.size, 1, none⟩ = some (.string (toB z)) := by show (w2.alloc _).cell? _ = _; rw [World.cell?_alloc_new]; rfl
    have hNW := (H1.at_.inWorld h5).node _ (look_mem ha.there)
    obtain ⟨c0, _, _⟩ := hNW.at0
    rw [ha.dir] at c0
    have hl := hNW.look ha.dir (toB z)
    rw [hx] at hl
    dsimp only [Option.getD_none, Option.isSome_none] at hl
    refine ⟨by rw [h4.cellB m1]; rfl, ⟨b0, b1⟩, ⟨by rw [h5.cellB m1]; rfl, by rw [h5.cellB m1]; rfl, by rw [h5.cellB m1]; rfl, by rw [h5.cellB m1]; rfl⟩, c0, hl, (hcall S2 _ h5 H1 hsub (hm2.later (((Below.refl _ w2).alloc (Nat.le_refl _) _).drew))).mono fun e w' hd => ?_⟩
    obtain ⟨e1, hd2⟩ := hd.ret (.int .i64 0)
    subst e1
    exact ⟨rfl, hd2.more hsub (by show _ ≤ (w2.alloc _).heap.size; simp; omega) hlt⟩
  have hsz1 : w.heap.size ≤ w1.heap.size := by omega
  have hm1 := hm.later hB1
  rw [hw1] at o0 o1 hpl
  clear hO H hO2 H1 m1 hsub hlt hsz hc hm hB1 hcall ha hx
  dsimp only [placeL] at hpl
  go_enter Tryz.func34, Tryz.ntmps34
  go_wp2_with fail
  refine hpl.mono ?_
  rintro e w2 ⟨rfl, hb⟩
  rw [← hw1] at hb
  have hO3 := HO2.out.later hb
  obtain ⟨x3, ⟨b0, b1⟩, ⟨y0, y1, y2, y3⟩, n0, hl, hcl⟩ := hgen w2 hO3 (Nat.le_trans hsz1 hb.size) (hm1.later hb)
  clear o0 o1 hpl hw1 hb hO3 hgen hsz1 HO2 hm1
  go_wp2_with fail
  go_region
  go_wp2_with fail
  refine hcl.mono ?_
  rintro e w3 ⟨rfl, hD⟩
  have HD := Lib.hid hD
  clear hD hcl
  go_wp2_with fail
  go_ret
  exact HD.out
set_option maxHeartbeats 4000000 in
theorem do_grow2 {w0 w : World} {S : Blocks} {L : List Rw} {t : Nat} {T : Tr} (hO : Own ⟨w0, S⟩ w L) (H : Tree S (Pc L) t T) (hm : Mx w) (p q : ByteArray) (hp : p.size ≤ maxLen) {va : Option Addr} {vn vc : Nat} (hvn : vn ≤ 3500)
    {j : Int} {nd : Nd} {k : Nat} {z : List UInt8} (hc : placeT T p.data.toList = (0, some (j, nd, z))) (ha : At T j nd k) (hx : look nd.kids (toB z) = none) {R : Tr → Prop} 
    (hcall : ∀ S' w', Own ⟨w0, S'⟩ w' L → Tree S' (Pc L) t T → (∀ b x, (b, x) ∈ S → (b, x) ∈ S') → Mx w' → Calls Tryz.prog 66 #[.pointer (some ⟨t, 0, none⟩), .agg #[.pointer (some ⟨nd.b, 0, none⟩), .string (toB z)], .agg (opL 2 p q (.slice va vn vc)).toArray] w' (DoL w0 S' L t T w' R (.tuple #[]))) :
    Calls Tryz.prog 34 #[.pointer (some ⟨t, 0, none⟩), .agg (opL 2 p q (.slice va vn vc)).toArray] w (DoL w0 S L t T w R (.int .i64 0)) := by
  obtain ⟨w1, S2, hw1, hsz, hO2, H1, m1, hsub, hlt, hB1⟩ := one_box hO H (.cells #[.int .i64 2, .string p, .string q, .slice va vn vc] 38)
  have o0 : w1.cell? ⟨w.heap.size, 0, none⟩ = some (.int .i64 2) := by rw [hO2.cellB m1]; rfl
  have o1 : w1.cell? ⟨w.heap.size, 1, none⟩ = some (.string p) := by rw [hO2.cellB m1]; rfl
  have hpl := place_any (H1.at_.inWorld hO2) H.good p hp (hm.later hB1)
  rw [hc] at hpl
  have HO2 := Lib.hid hO2
  have hgen : ∀ w2, Own ⟨w0, S2⟩ w2 L → w.heap.size ≤ w2.heap.size → Mx w2 → (w2.alloc (boxP nd (toB z))).cell? ⟨w.heap.size, 3, none⟩ = some (.slice va vn vc) ∧
      ((w2.alloc (boxP nd (toB z))).drew.cell? ⟨w2.heap.size, 0, none⟩ = some (.pointer (some ⟨nd.b, 0, none⟩)) ∧ (w2.alloc (boxP nd (toB z))).drew.cell? ⟨w2.heap.size, 1, none⟩ = some (.string (toB z))) ∧
      ((w2.alloc (boxP nd (toB z))).drew.cell? ⟨w.heap.size, 0, none⟩ = some (.int .i64 2) ∧ (w2.alloc (boxP nd (toB z))).drew.cell? ⟨w.heap.size, 1, none⟩ = some (.string p) ∧ (w2.alloc (boxP nd (toB z))).drew.cell? ⟨w.heap.size, 2, none⟩ = some (.string q) ∧ (w2.alloc (boxP nd (toB z))).drew.cell? ⟨w.heap.size, 3, none⟩ = some (.slice va vn vc)) ∧
      (w2.alloc (boxP nd (toB z))).drew.cell? ⟨nd.b, 0, none⟩ = some (.map (some k)) ∧
      (Instr.lookup 84 (.map (some k)) (.string (toB z)) true).run Tryz.prog (w2.alloc (boxP nd (toB z))).drew = .ok (.tuple #[.int .i64 0, .bool false]) (w2.alloc (boxP nd (toB z))).drew ∧
      Calls Tryz.prog 66 #[.pointer (some ⟨t, 0, none⟩), .agg #[.pointer (some ⟨nd.b, 0, none⟩), .string (toB z)], .agg (opL 2 p q (.slice va vn vc)).toArray] (w2.alloc (boxP nd (toB z))).drew (fun e w' => e = .returned (.tuple #[]) ∧ DoL w0 S L t T w R (.int .i64 0) (.returned (.int .i64 0)) w') := by
    intro w2 h2 h3 hm2
    have h4 := h2.alloc (boxP nd (toB z))
    have h5 := h4.drew
    have b0 : (w2.alloc (boxP nd (toB z))).drew.cell? ⟨w2.heap.size, 0, none⟩ = some (.pointer (some ⟨nd.b, 0, none⟩)) := by show (w2.alloc _).cell? _ = _; rw [World.cell?_alloc_new]; rfl
    have b1 : (w2.alloc (boxP nd (toB z))).drew.cell? ⟨w2.heap.size, 1, none⟩ = some (.string (toB z)) := by show (w2.alloc _).cell? _ = _; rw [World.cell?_alloc_new]; rfl
    have hNW := (H1.at_.inWorld h5).node _ (look_mem ha.there)
    obtain ⟨c0, _, _⟩ := hNW.at0
    rw [ha.dir] at c0
    have hl := hNW.look ha.dir (toB z)
    rw [hx] at hl
    dsimp only [Option.getD_none, Option.isSome_none] at hl
    refine ⟨by rw [h4.cellB m1]; rfl, ⟨b0, b1⟩, ⟨by rw [h5.cellB m1]; rfl, by rw [h5.cellB m1]; rfl, by rw [h5.cellB m1]; rfl, by rw [h5.cellB m1]; rfl⟩, c0, hl, (hcall S2 _ h5 H1 hsub (hm2.later (((Below.refl _ w2).alloc (Nat.le_refl _) _).drew))).mono fun e w' hd => ?_⟩
    obtain ⟨e1, hd2⟩ := hd.ret (.int .i64 0)
    subst e1
    exact ⟨rfl, hd2.more hsub (by show _ ≤ (w2.alloc _).heap.size; simp; omega) hlt⟩
  have hsz1 : w.heap.size ≤ w1.heap.size := by omega
  have hm1 := hm.later hB1
  rw [hw1] at o0 o1 hpl
  clear hO H hO2 H1 m1 hsub hlt hsz hc hm hB1 hcall ha hx
  dsimp only [placeL] at hpl
  go_enter Tryz.func34, Tryz.ntmps34
  go_wp2_with fail
  refine hpl.mono ?_
  rintro e w2 ⟨rfl, hb⟩
  rw [← hw1] at hb
  have hO3 := HO2.out.later hb
  obtain ⟨x3, ⟨b0, b1⟩, ⟨y0, y1, y2, y3⟩, n0, hl, hcl⟩ := hgen w2 hO3 (Nat.le_trans hsz1 hb.size) (hm1.later hb)
  clear o0 o1 hpl hw1 hb hO3 hgen hsz1 HO2 hm1
  go_wp2_with fail
  go_region
  go_wp2_with fail
  refine hcl.mono ?_
  rintro e w3 ⟨rfl, hD⟩
  have HD := Lib.hid hD
  clear hD hcl
  go_wp2_with fail
  go_ret
  exact HD.out
set_option maxHeartbeats 4000000 in
theorem do_turn3 {w0 w : World} {S : Blocks} {L : List Rw} {t : Nat} {T : Tr} (hO : Own ⟨w0, S⟩ w L) (H : Tree S (Pc L) t T) (hm : Mx w) (p q : ByteArray) (hp : p.size ≤ maxLen) {va : Option Addr} {vn vc : Nat} (hvn : vn ≤ 3500)
    {j : Int} {nd : Nd} {k : Nat} {z : List UInt8} (hc : placeT T p.data.toList = (0, some (j, nd, z))) (ha : At T j nd k) {i : Int} {f : Nd} (hx : look nd.kids (toB z) = some i) (g : Fl T i f) {R : Tr → Prop} {c : Int}
    (hcall : ∀ S' w', Own ⟨w0, S'⟩ w' L → Tree S' (Pc L) t T → (∀ b x, (b, x) ∈ S → (b, x) ∈ S') → Mx w' → Calls Tryz.prog 68 #[.pointer (some ⟨t, 0, none⟩), .agg #[.pointer (some ⟨nd.b, 0, none⟩), .string (toB z)], .int .i64 i, .agg (opL 3 p q (.slice va vn vc)).toArray] w' (DoL w0 S' L t T w' R (.int .i64 c))) :
    Calls Tryz.prog 34 #[.pointer (some ⟨t, 0, none⟩), .agg (opL 3 p q (.slice va vn vc)).toArray] w (DoL w0 S L t T w R (.int .i64 c)) := by
  obtain ⟨w1, S2, hw1, hsz, hO2, H1, m1, hsub, hlt, hB1⟩ := one_box hO H (.cells #[.int .i64 3, .string p, .string q, .slice va vn vc] 38)
  have o0 : w1.cell? ⟨w.heap.size, 0, none⟩ = some (.int .i64 3) := by rw [hO2.cellB m1]; rfl
  have o1 : w1.cell? ⟨w.heap.size, 1, none⟩ = some (.string p) := by rw [hO2.cellB m1]; rfl
  have hpl := place_any (H1.at_.inWorld hO2) H.good p hp (hm.later hB1)
  rw [hc] at hpl
  have HO2 := Lib.hid hO2
  have hgen : ∀ w2, Own ⟨w0, S2⟩ w2 L → w.heap.size ≤ w2.heap.size → Mx w2 → (w2.alloc (boxP nd (toB z))).cell? ⟨w.heap.size, 3, none⟩ = some (.slice va vn vc) ∧
      ((w2.alloc (boxP nd (toB z))).drew.cell? ⟨w2.heap.size, 0, none⟩ = some (.pointer (some ⟨nd.b, 0, none⟩)) ∧ (w2.alloc (boxP nd (toB z))).drew.cell? ⟨w2.heap.size, 1, none⟩ = some (.string (toB z))) ∧
      ((w2.alloc (boxP nd (toB z))).drew.cell? ⟨w.heap.size, 0, none⟩ = some (.int .i64 3) ∧ (w2.alloc (boxP nd (toB z))).drew.cell? ⟨w.heap.size, 1, none⟩ = some (.string p) ∧ (w2.alloc (boxP nd (toB z))).drew.cell? ⟨w.heap.size, 2, none⟩ = some (.string q) ∧ (w2.alloc (boxP nd (toB z))).drew.cell? ⟨w.heap.size, 3, none⟩ = some (.slice va vn vc)) ∧
      (w2.alloc (boxP nd (toB z))).drew.cell? ⟨nd.b, 0, none⟩ = some (.map (some k)) ∧
      ((Instr.lookup 84 (.map (some k)) (.string (toB z)) true).run Tryz.prog (w2.alloc (boxP nd (toB z))).drew = .ok (.tuple #[.int .i64 i, .bool true]) (w2.alloc (boxP nd (toB z))).drew ∧ (w2.alloc (boxP nd (toB z))).drew.cell? ⟨t, 2, none⟩ = some (.map (some T.bm)) ∧ (Instr.lookup 73 (.map (some T.bm)) (.int .i64 i) false).run Tryz.prog (w2.alloc (boxP nd (toB z))).drew = .ok (.pointer (some ⟨f.b, 0, none⟩)) (w2.alloc (boxP nd (toB z))).drew ∧ Calls Tryz.prog 58 #[.pointer (some ⟨f.b, 0, none⟩)] (w2.alloc (boxP nd (toB z))).drew (fun e w' => e = .returned (.bool false) ∧ (w2.alloc (boxP nd (toB z))).drew = w')) ∧
      Calls Tryz.prog 68 #[.pointer (some ⟨t, 0, none⟩), .agg #[.pointer (some ⟨nd.b, 0, none⟩), .string (toB z)], .int .i64 i, .agg (opL 3 p q (.slice va vn vc)).toArray] (w2.alloc (boxP nd (toB z))).drew (fun e w' => e = .returned (.int .i64 c) ∧ DoL w0 S L t T w R (.int .i64 c) (.returned (.int .i64 c)) w') := by
    intro w2 h2 h3 hm2
    have h4 := h2.alloc (boxP nd (toB z))
    have h5 := h4.drew
    have b0 : (w2.alloc (boxP nd (toB z))).drew.cell? ⟨w2.heap.size, 0, none⟩ = some (.pointer (some ⟨nd.b, 0, none⟩)) := by show (w2.alloc _).cell? _ = _; rw [World.cell?_alloc_new]; rfl
    have b1 : (w2.alloc (boxP nd (toB z))).drew.cell? ⟨w2.heap.size, 1, none⟩ = some (.string (toB z)) := by show (w2.alloc _).cell? _ = _; rw [World.cell?_alloc_new]; rfl
    have hNW := (H1.at_.inWorld h5).node _ (look_mem ha.there)
    obtain ⟨c0, _, _⟩ := hNW.at0
    rw [ha.dir] at c0
    have hl := hNW.look ha.dir (toB z)
    rw [hx] at hl
    dsimp only [Option.getD_some, Option.isSome_some] at hl
    have hl2 := (H1.at_.inWorld h5).look i
    rw [g.there] at hl2
    dsimp only [ptrOf] at hl2
    have hdir := dir_any ((H1.at_.inWorld h5).node _ (look_mem g.there))
    rw [show f.k.isSome = false by rw [g.file]; rfl] at hdir
    refine ⟨by rw [h4.cellB m1]; rfl, ⟨b0, b1⟩, ⟨by rw [h5.cellB m1]; rfl, by rw [h5.cellB m1]; rfl, by rw [h5.cellB m1]; rfl, by rw [h5.cellB m1]; rfl⟩, c0, ⟨hl, (H1.at_.inWorld h5).at0.2.2, hl2, hdir⟩, (hcall S2 _ h5 H1 hsub (hm2.later (((Below.refl _ w2).alloc (Nat.le_refl _) _).drew))).mono fun e w' hd => ?_⟩
    obtain ⟨e1, hd2⟩ := hd.ret (.int .i64 c)
    subst e1
    exact ⟨rfl, hd2.more hsub (by show _ ≤ (w2.alloc _).heap.size; simp; omega) hlt⟩
  have hsz1 : w.heap.size ≤ w1.heap.size := by omega
  have hm1 := hm.later hB1
  rw [hw1] at o0 o1 hpl
  clear hO H hO2 H1 m1 hsub hlt hsz hc hm hB1 hcall ha hx g
  dsimp only [placeL] at hpl
  go_enter Tryz.func34, Tryz.ntmps34
  go_wp2_with fail
  refine hpl.mono ?_
  rintro e w2 ⟨rfl, hb⟩
  rw [← hw1] at hb
  have hO3 := HO2.out.later hb
  obtain ⟨x3, ⟨b0, b1⟩, ⟨y0, y1, y2, y3⟩, n0, ⟨hl, t2, hl2, hdir⟩, hcl⟩ := hgen w2 hO3 (Nat.le_trans hsz1 hb.size) (hm1.later hb)
  clear o0 o1 hpl hw1 hb hO3 hgen hsz1 HO2 hm1
  go_wp2_with fail
  go_region
  go_wp2_with (go_at_call 58; refine hdir.mono ?_; rintro e w' ⟨rfl, rfl⟩)
  refine hcl.mono ?_
  rintro e w3 ⟨rfl, hD⟩
  have HD := Lib.hid hD
  clear hD hcl
  go_wp2_with fail
  go_ret
  exact HD.out
set_option maxHeartbeats 4000000 in
theorem do_turn4 {w0 w : World} {S : Blocks} {L : List Rw} {t : Nat} {T : Tr} (hO : Own ⟨w0, S⟩ w L) (H : Tree S (Pc L) t T) (hm : Mx w) (p q : ByteArray) (hp : p.size ≤ maxLen) {va : Option Addr} {vn vc : Nat} (hvn : vn ≤ 3500)
    {j : Int} {nd : Nd} {k : Nat} {z : List UInt8} (hc : placeT T p.data.toList = (0, some (j, nd, z))) (ha : At T j nd k) {i : Int} {f : Nd} (hx : look nd.kids (toB z) = some i) (g : Fl T i f) {R : Tr → Prop} {c : Int}
    (hcall : ∀ S' w', Own ⟨w0, S'⟩ w' L → Tree S' (Pc L) t T → (∀ b x, (b, x) ∈ S → (b, x) ∈ S') → Mx w' → Calls Tryz.prog 68 #[.pointer (some ⟨t, 0, none⟩), .agg #[.pointer (some ⟨nd.b, 0, none⟩), .string (toB z)], .int .i64 i, .agg (opL 4 p q (.slice va vn vc)).toArray] w' (DoL w0 S' L t T w' R (.int .i64 c))) :
    Calls Tryz.prog 34 #[.pointer (some ⟨t, 0, none⟩), .agg (opL 4 p q (.slice va vn vc)).toArray] w (DoL w0 S L t T w R (.int .i64 c)) := by
  obtain ⟨w1, S2, hw1, hsz, hO2, H1, m1, hsub, hlt, hB1⟩ := one_box hO H (.cells #[.int .i64 4, .string p, .string q, .slice va vn vc] 38)
  have o0 : w1.cell? ⟨w.heap.size, 0, none⟩ = some (.int .i64 4) := by rw [hO2.cellB m1]; rfl
  have o1 : w1.cell? ⟨w.heap.size, 1, none⟩ = some (.string p) := by rw [hO2.cellB m1]; rfl
  have hpl := place_any (H1.at_.inWorld hO2) H.good p hp (hm.later hB1)
  rw [hc] at hpl
  have HO2 := Lib.hid hO2
  have hgen : ∀ w2, Own ⟨w0, S2⟩ w2 L → w.heap.size ≤ w2.heap.size → Mx w2 → (w2.alloc (boxP nd (toB z))).cell? ⟨w.heap.size, 3, none⟩ = some (.slice va vn vc) ∧
      ((w2.alloc (boxP nd (toB z))).drew.cell? ⟨w2.heap.size, 0, none⟩ = some (.pointer (some ⟨nd.b, 0, none⟩)) ∧ (w2.alloc (boxP nd (toB z))).drew.cell? ⟨w2.heap.size, 1, none⟩ = some (.string (toB z))) ∧
      ((w2.alloc (boxP nd (toB z))).drew.cell? ⟨w.heap.size, 0, none⟩ = some (.int .i64 4) ∧ (w2.alloc (boxP nd (toB z))).drew.cell? ⟨w.heap.size, 1, none⟩ = some (.string p) ∧ (w2.alloc (boxP nd (toB z))).drew.cell? ⟨w.heap.size, 2, none⟩ = some (.string q) ∧ (w2.alloc (boxP nd (toB z))).drew.cell? ⟨w.heap.size, 3, none⟩ = some (.slice va vn vc)) ∧
      (w2.alloc (boxP nd (toB z))).drew.cell? ⟨nd.b, 0, none⟩ = some (.map (some k)) ∧
      ((Instr.lookup 84 (.map (some k)) (.string (toB z)) true).run Tryz.prog (w2.alloc (boxP nd (toB z))).drew = .ok (.tuple #[.int .i64 i, .bool true]) (w2.alloc (boxP nd (toB z))).drew ∧ (w2.alloc (boxP nd (toB z))).drew.cell? ⟨t, 2, none⟩ = some (.map (some T.bm)) ∧ (Instr.lookup 73 (.map (some T.bm)) (.int .i64 i) false).run Tryz.prog (w2.alloc (boxP nd (toB z))).drew = .ok (.pointer (some ⟨f.b, 0, none⟩)) (w2.alloc (boxP nd (toB z))).drew ∧ Calls Tryz.prog 58 #[.pointer (some ⟨f.b, 0, none⟩)] (w2.alloc (boxP nd (toB z))).drew (fun e w' => e = .returned (.bool false) ∧ (w2.alloc (boxP nd (toB z))).drew = w')) ∧
      Calls Tryz.prog 68 #[.pointer (some ⟨t, 0, none⟩), .agg #[.pointer (some ⟨nd.b, 0, none⟩), .string (toB z)], .int .i64 i, .agg (opL 4 p q (.slice va vn vc)).toArray] (w2.alloc (boxP nd (toB z))).drew (fun e w' => e = .returned (.int .i64 c) ∧ DoL w0 S L t T w R (.int .i64 c) (.returned (.int .i64 c)) w') := by
    intro w2 h2 h3 hm2
    have h4 := h2.alloc (boxP nd (toB z))
    have h5 := h4.drew
    have b0 : (w2.alloc (boxP nd (toB z))).drew.cell? ⟨w2.heap.size, 0, none⟩ = some (.pointer (some ⟨nd.b, 0, none⟩)) := by show (w2.alloc _).cell? _ = _; rw [World.cell?_alloc_new]; rfl
    have b1 : (w2.alloc (boxP nd (toB z))).drew.cell? ⟨w2.heap.size, 1, none⟩ = some (.string (toB z)) := by show (w2.alloc _).cell? _ = _; rw [World.cell?_alloc_new]; rfl
    have hNW := (H1.at_.inWorld h5).node _ (look_mem ha.there)
    obtain ⟨c0, _, _⟩ := hNW.at0
    rw [ha.dir] at c0
    have hl := hNW.look ha.dir (toB z)
    rw [hx] at hl
    dsimp only [Option.getD_some, Option.isSome_some] at hl
    have hl2 := (H1.at_.inWorld h5).look i
    rw [g.there] at hl2
    dsimp only [ptrOf] at hl2
    have hdir := dir_any ((H1.at_.inWorld h5).node _ (look_mem g.there))
    rw [show f.k.isSome = false by rw [g.file]; rfl] at hdir
    refine ⟨by rw [h4.cellB m1]; rfl, ⟨b0, b1⟩, ⟨by rw [h5.cellB m1]; rfl, by rw [h5.cellB m1]; rfl, by rw [h5.cellB m1]; rfl, by rw [h5.cellB m1]; rfl⟩, c0, ⟨hl, (H1.at_.inWorld h5).at0.2.2, hl2, hdir⟩, (hcall S2 _ h5 H1 hsub (hm2.later (((Below.refl _ w2).alloc (Nat.le_refl _) _).drew))).mono fun e w' hd => ?_⟩
    obtain ⟨e1, hd2⟩ := hd.ret (.int .i64 c)
    subst e1
    exact ⟨rfl, hd2.more hsub (by show _ ≤ (w2.alloc _).heap.size; simp; omega) hlt⟩
  have hsz1 : w.heap.size ≤ w1.heap.size := by omega
  have hm1 := hm.later hB1
  rw [hw1] at o0 o1 hpl
  clear hO H hO2 H1 m1 hsub hlt hsz hc hm hB1 hcall ha hx g
  dsimp only [placeL] at hpl
  go_enter Tryz.func34, Tryz.ntmps34
  go_wp2_with fail
  refine hpl.mono ?_
  rintro e w2 ⟨rfl, hb⟩
  rw [← hw1] at hb
  have hO3 := HO2.out.later hb
  obtain ⟨x3, ⟨b0, b1⟩, ⟨y0, y1, y2, y3⟩, n0, ⟨hl, t2, hl2, hdir⟩, hcl⟩ := hgen w2 hO3 (Nat.le_trans hsz1 hb.size) (hm1.later hb)
  clear o0 o1 hpl hw1 hb hO3 hgen hsz1 HO2 hm1
  go_wp2_with fail
  go_region
  go_wp2_with (go_at_call 58; refine hdir.mono ?_; rintro e w' ⟨rfl, rfl⟩)
  refine hcl.mono ?_
  rintro e w3 ⟨rfl, hD⟩
  have HD := Lib.hid hD
  clear hD hcl
  go_wp2_with fail
  go_ret
  exact HD.out
set_option maxHeartbeats 4000000 in
theorem do_turn5 {w0 w : World} {S : Blocks} {L : List Rw} {t : Nat} {T : Tr} (hO : Own ⟨w0, S⟩ w L) (H : Tree S (Pc L) t T) (hm : Mx w) (p q : ByteArray) (hp : p.size ≤ maxLen) {va : Option Addr} {vn vc : Nat} (hvn : vn ≤ 3500)
    {j : Int} {nd : Nd} {k : Nat} {z : List UInt8} (hc : placeT T p.data.toList = (0, some (j, nd, z))) (ha : At T j nd k) {i : Int} {f : Nd} (hx : look nd.kids (toB z) = some i) (g : Fl T i f) {R : Tr → Prop} {c : Int}
    (hcall : ∀ S' w', Own ⟨w0, S'⟩ w' L → Tree S' (Pc L) t T → (∀ b x, (b, x) ∈ S → (b, x) ∈ S') → Mx w' → Calls Tryz.prog 68 #[.pointer (some ⟨t, 0, none⟩), .agg #[.pointer (some ⟨nd.b, 0, none⟩), .string (toB z)], .int .i64 i, .agg (opL 5 p q (.slice va vn vc)).toArray] w' (DoL w0 S' L t T w' R (.int .i64 c))) :
    Calls Tryz.prog 34 #[.pointer (some ⟨t, 0, none⟩), .agg (opL 5 p q (.slice va vn vc)).toArray] w (DoL w0 S L t T w R (.int .i64 c)) := by
  obtain ⟨w1, S2, hw1, hsz, hO2, H1, m1, hsub, hlt, hB1⟩ := one_box hO H (.cells #[.int .i64 5, .string p, .string q, .slice va vn vc] 38)
  have o0 : w1.cell? ⟨w.heap.size, 0, none⟩ = some (.int .i64 5) := by rw [hO2.cellB m1]; rfl
  have o1 : w1.cell? ⟨w.heap.size, 1, none⟩ = some (.string p) := by rw [hO2.cellB m1]; rfl
  have hpl := place_any (H1.at_.inWorld hO2) H.good p hp (hm.later hB1)
  rw [hc] at hpl
  have HO2 := Lib.hid hO2
  have hgen : ∀ w2, Own ⟨w0, S2⟩ w2 L → w.heap.size ≤ w2.heap.size → Mx w2 → (w2.alloc (boxP nd (toB z))).cell? ⟨w.heap.size, 3, none⟩ = some (.slice va vn vc) ∧
      ((w2.alloc (boxP nd (toB z))).drew.cell? ⟨w2.heap.size, 0, none⟩ = some (.pointer (some ⟨nd.b, 0, none⟩)) ∧ (w2.alloc (boxP nd (toB z))).drew.cell? ⟨w2.heap.size, 1, none⟩ = some (.string (toB z))) ∧
      ((w2.alloc (boxP nd (toB z))).drew.cell? ⟨w.heap.size, 0, none⟩ = some (.int .i64 5) ∧ (w2.alloc (boxP nd (toB z))).drew.cell? ⟨w.heap.size, 1, none⟩ = some (.string p) ∧ (w2.alloc (boxP nd (toB z))).drew.cell? ⟨w.heap.size, 2, none⟩ = some (.string q) ∧ (w2.alloc (boxP nd (toB z))).drew.cell? ⟨w.heap.size, 3, none⟩ = some (.slice va vn vc)) ∧
      (w2.alloc (boxP nd (toB z))).drew.cell? ⟨nd.b, 0, none⟩ = some (.map (some k)) ∧
      ((Instr.lookup 84 (.map (some k)) (.string (toB z)) true).run Tryz.prog (w2.alloc (boxP nd (toB z))).drew = .ok (.tuple #[.int .i64 i, .bool true]) (w2.alloc (boxP nd (toB z))).drew ∧ (w2.alloc (boxP nd (toB z))).drew.cell? ⟨t, 2, none⟩ = some (.map (some T.bm)) ∧ (Instr.lookup 73 (.map (some T.bm)) (.int .i64 i) false).run Tryz.prog (w2.alloc (boxP nd (toB z))).drew = .ok (.pointer (some ⟨f.b, 0, none⟩)) (w2.alloc (boxP nd (toB z))).drew ∧ Calls Tryz.prog 58 #[.pointer (some ⟨f.b, 0, none⟩)] (w2.alloc (boxP nd (toB z))).drew (fun e w' => e = .returned (.bool false) ∧ (w2.alloc (boxP nd (toB z))).drew = w')) ∧
      Calls Tryz.prog 68 #[.pointer (some ⟨t, 0, none⟩), .agg #[.pointer (some ⟨nd.b, 0, none⟩), .string (toB z)], .int .i64 i, .agg (opL 5 p q (.slice va vn vc)).toArray] (w2.alloc (boxP nd (toB z))).drew (fun e w' => e = .returned (.int .i64 c) ∧ DoL w0 S L t T w R (.int .i64 c) (.returned (.int .i64 c)) w') := by
    intro w2 h2 h3 hm2
    have h4 := h2.alloc (boxP nd (toB z))
    have h5 := h4.drew
    have b0 : (w2.alloc (boxP nd (toB z))).drew.cell? ⟨w2.heap.size, 0, none⟩ = some (.pointer (some ⟨nd.b, 0, none⟩)) := by show (w2.alloc _).cell? _ = _; rw [World.cell?_alloc_new]; rfl
    have b1 : (w2.alloc (boxP nd (toB z))).drew.cell? ⟨w2.heap.size, 1, none⟩ = some (.string (toB z)) := by show (w2.alloc _).cell? _ = _; rw [World.cell?_alloc_new]; rfl
    have hNW := (H1.at_.inWorld h5).node _ (look_mem ha.there)
    obtain ⟨c0, _, _⟩ := hNW.at0
    rw [ha.dir] at c0
    have hl := hNW.look ha.dir (toB z)
    rw [hx] at hl
    dsimp only [Option.getD_some, Option.isSome_some] at hl
    have hl2 := (H1.at_.inWorld h5).look i
    rw [g.there] at hl2
    dsimp only [ptrOf] at hl2
    have hdir := dir_any ((H1.at_.inWorld h5).node _ (look_mem g.there))
    rw [show f.k.isSome = false by rw [g.file]; rfl] at hdir
    refine ⟨by rw [h4.cellB m1]; rfl, ⟨b0, b1⟩, ⟨by rw [h5.cellB m1]; rfl, by rw [h5.cellB m1]; rfl, by rw [h5.cellB m1]; rfl, by rw [h5.cellB m1]; rfl⟩, c0, ⟨hl, (H1.at_.inWorld h5).at0.2.2, hl2, hdir⟩, (hcall S2 _ h5 H1 hsub (hm2.later (((Below.refl _ w2).alloc (Nat.le_refl _) _).drew))).mono fun e w' hd => ?_⟩
    obtain ⟨e1, hd2⟩ := hd.ret (.int .i64 c)
    subst e1
    exact ⟨rfl, hd2.more hsub (by show _ ≤ (w2.alloc _).heap.size; simp; omega) hlt⟩
  have hsz1 : w.heap.size ≤ w1.heap.size := by omega
  have hm1 := hm.later hB1
  rw [hw1] at o0 o1 hpl
  clear hO H hO2 H1 m1 hsub hlt hsz hc hm hB1 hcall ha hx g
  dsimp only [placeL] at hpl
  go_enter Tryz.func34, Tryz.ntmps34
  go_wp2_with fail
  refine hpl.mono ?_
  rintro e w2 ⟨rfl, hb⟩
  rw [← hw1] at hb
  have hO3 := HO2.out.later hb
  obtain ⟨x3, ⟨b0, b1⟩, ⟨y0, y1, y2, y3⟩, n0, ⟨hl, t2, hl2, hdir⟩, hcl⟩ := hgen w2 hO3 (Nat.le_trans hsz1 hb.size) (hm1.later hb)
  clear o0 o1 hpl hw1 hb hO3 hgen hsz1 HO2 hm1
  go_wp2_with fail
  go_region
  go_wp2_with (go_at_call 58; refine hdir.mono ?_; rintro e w' ⟨rfl, rfl⟩)
  refine hcl.mono ?_
  rintro e w3 ⟨rfl, hD⟩
  have HD := Lib.hid hD
  clear hD hcl
  go_wp2_with fail
  go_ret
  exact HD.out
set_option maxHeartbeats 4000000 in
theorem do_turn6 {w0 w : World} {S : Blocks} {L : List Rw} {t : Nat} {T : Tr} (hO : Own ⟨w0, S⟩ w L) (H : Tree S (Pc L) t T) (hm : Mx w) (p q : ByteArray) (hp : p.size ≤ maxLen) {va : Option Addr} {vn vc : Nat} (hvn : vn ≤ 3500)
    {j : Int} {nd : Nd} {k : Nat} {z : List UInt8} (hc : placeT T p.data.toList = (0, some (j, nd, z))) (ha : At T j nd k) {i : Int} {f : Nd} (hx : look nd.kids (toB z) = some i) (g : Fl T i f) {R : Tr → Prop} {c : Int}
    (hcall : ∀ S' w', Own ⟨w0, S'⟩ w' L → Tree S' (Pc L) t T → (∀ b x, (b, x) ∈ S → (b, x) ∈ S') → Mx w' → Calls Tryz.prog 68 #[.pointer (some ⟨t, 0, none⟩), .agg #[.pointer (some ⟨nd.b, 0, none⟩), .string (toB z)], .int .i64 i, .agg (opL 6 p q (.slice va vn vc)).toArray] w' (DoL w0 S' L t T w' R (.int .i64 c))) :
    Calls Tryz.prog 34 #[.pointer (some ⟨t, 0, none⟩), .agg (opL 6 p q (.slice va vn vc)).toArray] w (DoL w0 S L t T w R (.int .i64 c)) := by
  obtain ⟨w1, S2, hw1, hsz, hO2, H1, m1, hsub, hlt, hB1⟩ := one_box hO H (.cells #[.int .i64 6, .string p, .string q, .slice va vn vc] 38)
  have o0 : w1.cell? ⟨w.heap.size, 0, none⟩ = some (.int .i64 6) := by rw [hO2.cellB m1]; rfl
  have o1 : w1.cell? ⟨w.heap.size, 1, none⟩ = some (.string p) := by rw [hO2.cellB m1]; rfl
  have hpl := place_any (H1.at_.inWorld hO2) H.good p hp (hm.later hB1)
  rw [hc] at hpl
  have HO2 := Lib.hid hO2
  have hgen : ∀ w2, Own ⟨w0, S2⟩ w2 L → w.heap.size ≤ w2.heap.size → Mx w2 → (w2.alloc (boxP nd (toB z))).cell? ⟨w.heap.size, 3, none⟩ = some (.slice va vn vc) ∧
      ((w2.alloc (boxP nd (toB z))).drew.cell? ⟨w2.heap.size, 0, none⟩ = some (.pointer (some ⟨nd.b, 0, none⟩)) ∧ (w2.alloc (boxP nd (toB z))).drew.cell? ⟨w2.heap.size, 1, none⟩ = some (.string (toB z))) ∧
      ((w2.alloc (boxP nd (toB z))).drew.cell? ⟨w.heap.size, 0, none⟩ = some (.int .i64 6) ∧ (w2.alloc (boxP nd (toB z))).drew.cell? ⟨w.heap.size, 1, none⟩ = some (.string p) ∧ (w2.alloc (boxP nd (toB z))).drew.cell? ⟨w.heap.size, 2, none⟩ = some (.string q) ∧ (w2.alloc (boxP nd (toB z))).drew.cell? ⟨w.heap.size, 3, none⟩ = some (.slice va vn vc)) ∧
      (w2.alloc (boxP nd (toB z))).drew.cell? ⟨nd.b, 0, none⟩ = some (.map (some k)) ∧
      ((Instr.lookup 84 (.map (some k)) (.string (toB z)) true).run Tryz.prog (w2.alloc (boxP nd (toB z))).drew = .ok (.tuple #[.int .i64 i, .bool true]) (w2.alloc (boxP nd (toB z))).drew ∧ (w2.alloc (boxP nd (toB z))).drew.cell? ⟨t, 2, none⟩ = some (.map (some T.bm)) ∧ (Instr.lookup 73 (.map (some T.bm)) (.int .i64 i) false).run Tryz.prog (w2.alloc (boxP nd (toB z))).drew = .ok (.pointer (some ⟨f.b, 0, none⟩)) (w2.alloc (boxP nd (toB z))).drew ∧ Calls Tryz.prog 58 #[.pointer (some ⟨f.b, 0, none⟩)] (w2.alloc (boxP nd (toB z))).drew (fun e w' => e = .returned (.bool false) ∧ (w2.alloc (boxP nd (toB z))).drew = w')) ∧
      Calls Tryz.prog 68 #[.pointer (some ⟨t, 0, none⟩), .agg #[.pointer (some ⟨nd.b, 0, none⟩), .string (toB z)], .int .i64 i, .agg (opL 6 p q (.slice va vn vc)).toArray] (w2.alloc (boxP nd (toB z))).drew (fun e w' => e = .returned (.int .i64 c) ∧ DoL w0 S L t T w R (.int .i64 c) (.returned (.int .i64 c)) w') := by
    intro w2 h2 h3 hm2
    have h4 := h2.alloc (boxP nd (toB z))
    have h5 := h4.drew
    have b0 : (w2.alloc (boxP nd (toB z))).drew.cell? ⟨w2.heap.size, 0, none⟩ = some (.pointer (some ⟨nd.b, 0, none⟩)) := by show (w2.alloc _).cell? _ = _; rw [World.cell?_alloc_new]; rfl
    have b1 : (w2.alloc (boxP nd (toB z))).drew.cell? ⟨w2.heap.size, 1, none⟩ = some (.string (toB z)) := by show (w2.alloc _).cell? _ = _; rw [World.cell?_alloc_new]; rfl
    have hNW := (H1.at_.inWorld h5).node _ (look_mem ha.there)
    obtain ⟨c0, _, _⟩ := hNW.at0
    rw [ha.dir] at c0
    have hl := hNW.look ha.dir (toB z)
    rw [hx] at hl
    dsimp only [Option.getD_some, Option.isSome_some] at hl
    have hl2 := (H1.at_.inWorld h5).look i
    rw [g.there] at hl2
    dsimp only [ptrOf] at hl2
    have hdir := dir_any ((H1.at_.inWorld h5).node _ (look_mem g.there))
    rw [show f.k.isSome = false by rw [g.file]; rfl] at hdir
    refine ⟨by rw [h4.cellB m1]; rfl, ⟨b0, b1⟩, ⟨by rw [h5.cellB m1]; rfl, by rw [h5.cellB m1]; rfl, by rw [h5.cellB m1]; rfl, by rw [h5.cellB m1]; rfl⟩, c0, ⟨hl, (H1.at_.inWorld h5).at0.2.2, hl2, hdir⟩, (hcall S2 _ h5 H1 hsub (hm2.later (((Below.refl _ w2).alloc (Nat.le_refl _) _).drew))).mono fun e w' hd => ?_⟩
    obtain ⟨e1, hd2⟩ := hd.ret (.int .i64 c)
    subst e1
    exact ⟨rfl, hd2.more hsub (by show _ ≤ (w2.alloc _).heap.size; simp; omega) hlt⟩
  have hsz1 : w.heap.size ≤ w1.heap.size := by omega
  have hm1 := hm.later hB1
  rw [hw1] at o0 o1 hpl
  clear hO H hO2 H1 m1 hsub hlt hsz hc hm hB1 hcall ha hx g
  dsimp only [placeL] at hpl
  go_enter Tryz.func34, Tryz.ntmps34
  go_wp2_with fail
  refine hpl.mono ?_
  rintro e w2 ⟨rfl, hb⟩
  rw [← hw1] at hb
  have hO3 := HO2.out.later hb
  obtain ⟨x3, ⟨b0, b1⟩, ⟨y0, y1, y2, y3⟩, n0, ⟨hl, t2, hl2, hdir⟩, hcl⟩ := hgen w2 hO3 (Nat.le_trans hsz1 hb.size) (hm1.later hb)
  clear o0 o1 hpl hw1 hb hO3 hgen hsz1 HO2 hm1
  go_wp2_with fail
  go_region
  go_wp2_with (go_at_call 58; refine hdir.mono ?_; rintro e w' ⟨rfl, rfl⟩)
  refine hcl.mono ?_
  rintro e w3 ⟨rfl, hD⟩
  have HD := Lib.hid hD
  clear hD hcl
  go_wp2_with fail
  go_ret
  exact HD.out
end Go.Proofs.YtdjoahhcmkedhaaGreatDoor
end

/- over; Do, where all goes well. -/
section
namespace Go.Proofs.YtdjoahhcmkedhaaGreatDoor
open Go.RowKit
open Go.ChangeMaps (setBlock)
set_option linter.unusedVariables false
set_option linter.unusedSimpArgs false
set_option maxRecDepth 100000

set_option maxHeartbeats 1000000 in
theorem over_ok {w : World} {D : Value → List Int → Prop} {t : Nat} {T : Tr} (H : TreeIn (inW w) D t T) (hu : sumT T.nodes ≤ 1000000000) (h1 : T.nodes.length ≤ 128) (h2 : (sumT T.nodes : Int) ≤ T.quota) :
    Calls Tryz.prog 35 #[.pointer (some ⟨t, 0, none⟩)] w fun e w' => e = .returned (.int .i64 0) ∧ Below w.heap.size w w' := by
  have hn := nodes_any H
  have hus := used_any (w := w.drew) (H.later (Below.refl _ w).drew) hu
  have c0 := H.at0.1
  have hS : ∀ w', Below w.heap.size w.drew w' → w'.cell? ⟨t, 0, none⟩ = some (.int .i64 T.quota) := fun w' hb => (H.later ((Below.refl _ w).drew.trans hb)).at0.1
  have b1 : ¬ (128 < (T.nodes.length : Int)) := by omega
  have b2 : ¬ (T.quota < (sumT T.nodes : Int)) := by omega
  clear H hu h1 h2
  generalize sumT T.nodes = s at *
  generalize T.nodes.length = m at *
  generalize T.quota = qq at *
  go_enter Tryz.func35, Tryz.ntmps35
  go_wp2_with (go_at_call 24; refine hn.mono ?_; rintro e w' ⟨rfl, rfl⟩)
  go_region_held3 (fun w' : World => w'.cell? ⟨t, 0, none⟩ = some (.int .i64 qq)) (first | exact c0 | exact hS _ (Below.refl _ _) | exact hS _ hb3) (first | (go_at_call 25; refine hus.mono ?_; rintro e w3 ⟨rfl, hb3⟩))
  all_goals go_wp2_with fail
  all_goals go_ret
  all_goals exact ⟨rfl, (Below.refl _ w).drew.trans hb3⟩
end Go.Proofs.YtdjoahhcmkedhaaGreatDoor
end

/- Do, where all goes well. -/
section
namespace Go.Proofs.YtdjoahhcmkedhaaGreatDoor
open Go.RowKit
open Go.ChangeMaps (setBlock)
set_option linter.unusedVariables false
set_option linter.unusedSimpArgs false
set_option maxRecDepth 100000

/-- An operation as plain data: its kind, its paths, its bytes' slice. -/
structure OpD where
  kind : Int
  p : ByteArray
  q : ByteArray
  a : Option Addr
  n : Nat
  c : Nat
abbrev OpD.cells (o : OpD) : List Value := opL o.kind o.p o.q (.slice o.a o.n o.c)
theorem info_op (o : OpD) : (Tryz.prog.info? 38).map (·.size) = some o.cells.length := by
  have : (Tryz.prog.info? 38).map (·.size) = some 4 := by kernel_rfl
  exact this
theorem op_one (o : OpD) : ∀ v ∈ o.cells, v.oneCell' = true := by
  intro v hv
  simp only [OpD.cells, opL, List.mem_cons, List.not_mem_nil, or_false] at hv
  rcases hv with rfl | rfl | rfl | rfl <;> rfl
/-- The state behind i operations: the clone at c, beside all that was there. -/
def DoRel (w0 : World) (S : Blocks) (L : List Rw) (w : World) (c : Nat) (P : Nat → Tr → Prop) (i : Nat) (wr : World) : Prop :=
  ∃ S' L' T', Own ⟨w0, S'⟩ wr L' ∧ (∀ x ∈ L, x ∈ L') ∧ Tree S' (Pc L') c T' ∧ (∀ b x, (b, x) ∈ S → (b, x) ∈ S') ∧ (∀ b ∈ c :: T'.foot, w.heap.size ≤ b) ∧ P i T' ∧ Mx wr ∧ w.heap.size ≤ wr.heap.size
theorem DoRel.step {w0 w wr w' : World} {S S2 : Blocks} {L L2 : List Rw} {c i : Nat} {T2 : Tr} {P : Nat → Tr → Prop} {r : Value} {e : Ending} (hd : DoL w0 S2 L2 c T2 wr (P (i + 1)) r e w') (hL : ∀ x ∈ L, x ∈ L2) (hs : ∀ b x, (b, x) ∈ S → (b, x) ∈ S2) (hh : ∀ b ∈ c :: T2.foot, w.heap.size ≤ b) (hlt : ∀ b x, (b, x) ∈ S → b < w.heap.size) (hw : w.heap.size ≤ wr.heap.size) (hmx : ∀ S' L' w', Own ⟨w0, S'⟩ w' L' → Mx w') :
    e = .returned r ∧ DoRel w0 S L w c P (i + 1) w' := by
  obtain ⟨S', L', T', h1, h2, h3, h4, h5, h6⟩ := hd
  have hcw := (h2.atLt h4.at_.cells).2
  have hcl := hh c (List.mem_cons_self ..)
  refine ⟨h1, S', L', T', h2, fun x hx => h3 x (hL x hx), h4, fun b x hb => h5.kept b x (hs b x hb) fun hb2 => ?_, fun b hb => ?_, h6, hmx _ _ _ h2, by omega⟩
  · have := hlt b x hb
    have := hh b hb2
    omega
  · rcases h5.fresh b hb with h | h
    · exact hh b h
    · omega
/-- The tree takes the clone's place. -/
theorem Tree.moved {S' : Blocks} {D : Value → List Int → Prop} {c t : Nat} {T T' : Tr} (H : Tree S' D c T') (ht : (t, Obj.cells (treeCells T) 75) ∈ S') (hn : t ∉ T'.foot) : Tree (upd S' t (.cells (treeCells T') 75)) D t T' := by
  have hne : ∀ b ∈ T'.foot, b ≠ t := fun b hb e => hn (e ▸ hb)
  obtain ⟨o, h1, h2⟩ := H.at_.map
  refine ⟨⟨upd_same ht _, ⟨o, upd_other h1 (hne _ (List.mem_cons_self ..)) _, h2⟩, fun p hp => (H.at_.node p hp).mono (fun b x hb hx => upd_other hx (hne b (foot_mem hp hb)) _) (fun _ _ h => h)⟩, List.nodup_cons.2 ⟨hn, (List.nodup_cons.1 H.apart).2⟩, H.good⟩
theorem upd_upd (S : Blocks) (b : Nat) (o o' : Obj) : upd (upd S b o) b o' = upd S b o' := by
  unfold upd
  rw [List.map_map]
  apply List.map_congr_left
  intro m _
  simp only [Function.comp]
  by_cases h : m.1 = b
  · rw [if_pos h, if_pos rfl, if_pos h]
  · rw [if_neg h, if_neg h]
theorem store3 {w0 w5 : World} {S2 : Blocks} {L2 : List Rw} {t : Nat} {T T2 : Tr} (h5 : Own ⟨w0, S2⟩ w5 L2) (ht : (t, Obj.cells (treeCells T) 75) ∈ S2) :
    Own ⟨w0, upd S2 t (.cells (treeCells T2) 75)⟩ (((w5.setCell ⟨t, 0, none⟩ (.int .i64 T2.quota)).setCell ⟨t, 1, none⟩ (.int .i64 T2.next)).setCell ⟨t, 2, none⟩ (.map (some T2.bm))) L2 := by
  have h := ((h5.storeB ht 0 (.int .i64 T2.quota)).storeB (upd_same ht _) 1 (.int .i64 T2.next)).storeB (upd_same (upd_same ht _) _) 2 (.map (some T2.bm))
  rw [upd_upd, upd_upd] at h
  exact h
set_option maxHeartbeats 4000000 in
theorem do_all {w0 w : World} {S : Blocks} {L : List Rw} {t : Nat} {T : Tr} (hO : Own ⟨w0, S⟩ w L) (H : Tree S (Pc L) t T) (hm : Mx w) (hmx : ∀ S' L' w', Own ⟨w0, S'⟩ w' L' → Mx w') (g off : Nat) (ops : List OpD) (cap : Nat) (hn : ops.length ≤ 1000000)
    (hops : ∀ w' S' L', Own ⟨w0, S'⟩ w' L' → (∀ b x, (b, x) ∈ S → (b, x) ∈ S') → ∀ i (h : i < ops.length), w'.rangeAt g (off + i * 4) ops[i].cells) {P : Nat → Tr → Prop} (hP0 : ∀ T', Same T T' → P 0 T')
    (hstep : ∀ c i (h : i < ops.length) S' L' T' w', Own ⟨w0, S'⟩ w' L' → (∀ x ∈ L, x ∈ L') → Tree S' (Pc L') c T' → (∀ b x, (b, x) ∈ S → (b, x) ∈ S') → (∀ b ∈ c :: T'.foot, w.heap.size ≤ b) → P i T' → Mx w' → Calls Tryz.prog 34 #[.pointer (some ⟨c, 0, none⟩), .agg ops[i].cells.toArray] w' (DoL w0 S' L' c T' w' (P (i + 1)) (.int .i64 0)))
    (hend : ∀ T', P ops.length T' → sumT T'.nodes ≤ 1000000000 ∧ T'.nodes.length ≤ 128 ∧ (sumT T'.nodes : Int) ≤ T'.quota) :
    Calls Tryz.prog 14 #[.pointer (some ⟨t, 0, none⟩), .slice (some ⟨g, off, none⟩) ops.length cap] w (DoL w0 S L t T w (P ops.length) (.int .i64 0)) := by
  have hlt : ∀ b x, (b, x) ∈ S → b < w.heap.size := fun b x hb => (hO.atLt hb).2
  have htl : t < w.heap.size := hlt _ _ H.at_.cells
  have hcl := clone_t hO H
  have HT := Lib.hid H
  have HOps := Lib.hid hops
  have HStep := Lib.hid hstep
  have HEnd := Lib.hid hend
  have HP0 := Lib.hid hP0
  clear hops hstep hend hP0 H
  have hsz0 := hO.size
  clear hO
  go_enter Tryz.func14, Tryz.ntmps14
  go_wp2_with fail
  refine hcl.mono ?_
  rintro e wc ⟨c, S1, T1, rfl, h1, h2, h3, h4, h5⟩
  have hwc : w.heap.size ≤ wc.heap.size := by
    have := (h1.atLt h2.at_.cells).2
    have := h4 c (List.mem_cons_self ..)
    omega
  have HR := Lib.hid (show DoRel w0 S L w c P 0 wc from ⟨S1, L, T1, h1, fun _ h => h, h2, h3, h4, HP0.out _ h5, hmx _ _ _ h1, hwc⟩)
  clear hcl h1 h2 h3 h4 h5 HP0
  go_wp2_with fail
  go_loopw [14] (fun i wr => ∃ k : Nat, k ≤ ops.length ∧ i = .int .i64 k ∧ DoRel w0 S L w c P k wr) (fun i _ => ops.length - (intOf i).toNat)
  case atStart => exact ⟨0, Nat.zero_le _, rfl, HR.out⟩
  case round =>
    obtain ⟨k, hk, rfl, hR⟩ := hrel
    have HR1 := Lib.hid hR
    obtain ⟨S2, L2, T2, k1, k2, k3, k4, k5, k6, k7, k8⟩ := hR
    by_cases hkl : k < ops.length
    · have Hr := Lib.hid (HOps.out wr S2 L2 k1 k4 k hkl)
      have HO := Lib.hid k1
      obtain ⟨od, hod⟩ : ∃ od, od = ops[k] := ⟨_, rfl⟩
      rw [← hod] at Hr
      have hstep2 := fun S' L' T' w' => HStep.out c k hkl S' L' T' w'
      rw [← hod] at hstep2
      have Hs2 := Lib.hid hstep2
      have Hone := Lib.hid (op_one od)
      have hb63 : (k : Int) < (ops.length : Int) := by exact_mod_cast hkl
      clear hstep2 hod
      go_wp2_with (first
        | (refine wpList_load_mid rfl 38 (.tmp 16) rfl g (off + k * 4) rfl od.cells _ Hr.out Tryz.underlying38 rfl (info_op _) ?_)
        | (refine wpList_store_new rfl 38 (.tmp 7) (.tmp 17) rfl HO.out od.cells wr.heap.size rfl rfl rfl rfl (info_op _) Hone.out ?_))
      intro w3 hO3 hlt3
      have Hr2 := Lib.hid (show w3.rangeAt wr.heap.size 0 od.cells from by
        have h1 := Own.range (h := hO3) 0 4
        exact h1)
      have hcall := Hs2.out S2 _ T2 w3 hO3 (fun x hx => List.mem_cons_of_mem _ (k2 x hx)) (k3.mono (fun b x _ hx => hx) (fun v zs h => h.cons _)) k4 k5 k6 (hmx _ _ _ hO3)
      have hfin : ∀ e w4, DoL w0 S2 (⟨38, 4, .slice (some ⟨wr.heap.size, 0, none⟩) 1 1, 1, od.cells⟩ :: L2) c T2 w3 (P (k + 1)) (.int .i64 0) e w4 → e = .returned (.int .i64 0) ∧ DoRel w0 S L w c P (k + 1) w4 := fun e w4 hd => DoRel.step hd (fun x hx => List.mem_cons_of_mem _ (k2 x hx)) k4 k5 hlt (by omega) hmx
      have HF := Lib.hid hfin
      clear hfin hO3 Hr HO Hone Hs2 k1 k2 k3 k4 k5 k6 k7 HR1 HStep HEnd HOps HT
      go_wp2_with (refine wpList_load_mid rfl 38 (.tmp 7) rfl wr.heap.size 0 rfl od.cells _ Hr2.out Tryz.underlying38 rfl (info_op _) ?_)
      refine hcall.mono ?_
      rintro e w4 hd
      obtain ⟨rfl, hR4⟩ := HF.out e w4 hd
      have HR4 := Lib.hid hR4
      clear hd hR4 hcall HF Hr2
      go_wp2_with fail
      go_roundw
      case rel => exact ⟨k + 1, by omega, by go_num, HR4.out⟩
      case measure => simp [intOf]; omega
    · obtain rfl : k = ops.length := by omega
      obtain ⟨z1, z2, z3⟩ := HEnd.out T2 k6
      have hov := over_ok (k3.at_.inWorld k1) z1 z2 z3
      have hb63 : ¬ ((ops.length : Int) < (ops.length : Int)) := Int.lt_irrefl _
      have hgen : ∀ w5, Below wr.heap.size wr w5 → (w5.cell? ⟨c, 0, none⟩ = some (.int .i64 T2.quota) ∧ w5.cell? ⟨c, 1, none⟩ = some (.int .i64 T2.next) ∧ w5.cell? ⟨c, 2, none⟩ = some (.map (some T2.bm))) ∧ (w5.frozen? ⟨t, 0, none⟩ = false ∧ w5.frozen? ⟨t, 1, none⟩ = false ∧ w5.frozen? ⟨t, 2, none⟩ = false) ∧ (w5.cell? ⟨t, 0, none⟩ = some (.int .i64 T.quota) ∧ w5.cell? ⟨t, 1, none⟩ = some (.int .i64 T.next) ∧ w5.cell? ⟨t, 2, none⟩ = some (.map (some T.bm))) := by
        intro w5 hb
        have h5 := k1.later hb
        have ht5 := h5.at (k4 _ _ HT.out.at_.cells)
        exact ⟨(k3.at_.inWorld h5).at0, ⟨free_at ht5 0, free_at ht5 1, free_at ht5 2⟩, cell_at ht5 0, cell_at ht5 1, cell_at ht5 2⟩
      have Hgen := Lib.hid hgen
      clear hgen
      go_wp2_with fail
      refine hov.mono ?_
      rintro e w5 ⟨rfl, hb5⟩
      obtain ⟨⟨a0, a1, a2⟩, ⟨f0, f1, f2⟩, b0, b1, b2⟩ := Hgen.out w5 hb5
      go_wp2_with fail
      go_ret
      have ht5 := k4 _ _ HT.out.at_.cells
      refine ⟨_, L2, T2, rfl, store3 (k1.later hb5) ht5, k2, k3.moved ht5 (fun hm => by have := k5 t (List.mem_cons_of_mem _ hm); omega), ⟨fun b x hb hnb => upd_other (k4 b x hb) (fun e => hnb (e ▸ List.mem_cons_self ..)) _, fun b hb => ?_⟩, k6⟩
      rcases List.mem_cons.1 hb with rfl | hb
      · exact .inl (List.mem_cons_self ..)
      · exact .inr (k5 b (List.mem_cons_of_mem _ hb))
end Go.Proofs.YtdjoahhcmkedhaaGreatDoor
end

/- Read. -/
section
namespace Go.Proofs.YtdjoahhcmkedhaaGreatDoor
open Go.RowKit
open Go.ChangeMaps (setBlock)
set_option linter.unusedVariables false
set_option linter.unusedSimpArgs false
set_option maxRecDepth 100000

theorem read_file {w0 w : World} {S : Blocks} {L : List Rw} {t : Nat} {T : Tr} (hO : Own ⟨w0, S⟩ w L) (H : Tree S (Pc L) t T) (s : ByteArray) (hs : s.size ≤ maxLen) (hm : Mx w) {n : Nd} (hn : standT T s.data.toList = some n) (hk : n.k = none) (hl : n.data.length ≤ 140737488355328) :
    Calls Tryz.prog 26 #[.pointer (some ⟨t, 0, none⟩), .string s] w fun e w' => ∃ v, e = .returned (.tuple #[v, .int .i64 0]) ∧ Own w w' [rowU v n.data] := by
  have hst := stands_any (H.at_.inWorld hO) H.good s hs hm
  rw [hn] at hst
  obtain ⟨i, hi⟩ := stand_mem hn
  have hgen : ∀ w2, Below w.heap.size w w2 → Calls Tryz.prog 58 #[.pointer (some ⟨n.b, 0, none⟩)] w2 (fun e w' => e = .returned (.bool false) ∧ w2 = w') ∧ w2.cell? ⟨n.b, 1, none⟩ = some n.dv ∧ By w2 n.dv n.data := by
    intro w2 hb
    have h1 := H.at_.inWorld (hO.later hb)
    have hd := dir_any (h1.node _ hi)
    rw [show n.k.isSome = false by rw [hk]; rfl] at hd
    exact ⟨hd, (h1.node _ hi).at0.2.1, (H.at_.node _ hi).dat.by (hO.later hb)⟩
  obtain ⟨a, c, hf⟩ := (H.at_.node _ hi).form
  have HW := Lib.hid (Own.start w)
  dsimp only at hf
  dsimp only [ptrOf] at hst
  rw [hf] at hgen
  have hcl : ∀ w2, Below w.heap.size w w2 → Calls Tryz.prog 59 #[.slice a n.data.length c] w2 (fun e w' => ∃ v, e = .returned v ∧ Own w w' [rowU v n.data]) := fun w2 hb => (clone_any _ _ w2 (hgen w2 hb).2.2 hl).mono fun e w' h => by
    obtain ⟨v, h1, h2⟩ := h
    have := (Own.of_below hb).join h2
    exact ⟨v, h1, by simpa using this⟩
  clear hO H hn hi hk hl hf
  generalize hlen : n.data.length = m at *
  go_enter Tryz.func26, Tryz.ntmps26
  go_wp2_with fail
  refine hst.mono ?_
  rintro e w2 ⟨rfl, hb⟩
  obtain ⟨hd, h1, _⟩ := hgen w2 hb
  have hcl2 := hcl w2 hb
  clear hgen hcl hst
  go_wp2_with (first
    | (go_at_call 58; refine hd.mono ?_; rintro e w' ⟨rfl, rfl⟩)
    | (go_at_call 59; refine hcl2.mono ?_; rintro e w3 ⟨v, rfl, hO3⟩; obtain ⟨a3, c3, rfl, _, _⟩ := Own.sized (h := (show Own w w3 (⟨5, 1, v, n.data.length, bs n.data⟩ :: []) from hO3)); have HO3 := Lib.hid hO3; clear hO3))
  go_ret2
  exact ⟨_, rfl, by subst hlen; exact HO3.out⟩
theorem read_no {w : World} {D : Value → List Int → Prop} {t : Nat} {T : Tr} (H : TreeIn (inW w) D t T) (G : Good T) (s : ByteArray) (hs : s.size ≤ maxLen) (hm : Mx w) (hn : standT T s.data.toList = none) :
    Calls Tryz.prog 26 #[.pointer (some ⟨t, 0, none⟩), .string s] w fun e w' => e = .returned (.tuple #[.slice none 0 0, .int .i64 8]) ∧ Below w.heap.size w w' := by
  have hst := stands_any H G s hs hm
  rw [hn] at hst
  dsimp only [ptrOf] at hst
  clear H G hn
  go_enter Tryz.func26, Tryz.ntmps26
  go_wp2_with fail
  refine hst.mono ?_
  rintro e w2 ⟨rfl, hb⟩
  go_wp2_with fail
  go_ret2
  exact ⟨rfl, hb⟩
theorem read_dir {w : World} {D : Value → List Int → Prop} {t : Nat} {T : Tr} (H : TreeIn (inW w) D t T) (G : Good T) (s : ByteArray) (hs : s.size ≤ maxLen) (hm : Mx w) {n : Nd} (hn : standT T s.data.toList = some n) (hk : n.k.isSome = true) :
    Calls Tryz.prog 26 #[.pointer (some ⟨t, 0, none⟩), .string s] w fun e w' => e = .returned (.tuple #[.slice none 0 0, .int .i64 10]) ∧ Below w.heap.size w w' := by
  have hst := stands_any H G s hs hm
  rw [hn] at hst
  dsimp only [ptrOf] at hst
  obtain ⟨i, hi⟩ := stand_mem hn
  have hgen : ∀ w2, Below w.heap.size w w2 → Calls Tryz.prog 58 #[.pointer (some ⟨n.b, 0, none⟩)] w2 (fun e w' => e = .returned (.bool true) ∧ w2 = w') := by
    intro w2 hb
    have hd := dir_any ((H.later hb).node _ hi)
    rwa [hk] at hd
  clear H G hn hi hk
  go_enter Tryz.func26, Tryz.ntmps26
  go_wp2_with fail
  refine hst.mono ?_
  rintro e w2 ⟨rfl, hb⟩
  have hd := hgen w2 hb
  clear hgen hst
  go_wp2_with (go_at_call 58; refine hd.mono ?_; rintro e w' ⟨rfl, rfl⟩)
  go_ret2
  exact ⟨rfl, hb⟩
end Go.Proofs.YtdjoahhcmkedhaaGreatDoor
end

/- A tree as plain data: numbers, names, bytes. -/
section
namespace Go.Proofs.YtdjoahhcmkedhaaGreatDoor
open Go.RowKit
open Go.ChangeMaps (setBlock)
set_option linter.unusedVariables false
set_option linter.unusedSimpArgs false
set_option maxRecDepth 100000

structure Et where
  quota : Int
  next : Int
  nodes : List (Int × ENd)
structure Rep (T : Tr) (E : Et) : Prop where
  quota : T.quota = E.quota
  next : T.next = E.next
  nodes : (erL T.nodes).Perm E.nodes
section
variable {α β : Type} [DecidableEq α]
theorem look_some_mem {m : List (α × β)} (hd : (m.map (·.1)).Nodup) {a : α} {v : β} : look m a = some v ↔ (a, v) ∈ m :=
  ⟨look_mem, fun h => look_of_mem hd h⟩
theorem look_perm {m m' : List (α × β)} (h : m.Perm m') (hd : (m.map (·.1)).Nodup) (a : α) : look m a = look m' a := by
  have hd' : (m'.map (·.1)).Nodup := (h.map (·.1)).nodup_iff.1 hd
  cases h1 : look m a with
  | some v => exact ((look_some_mem hd').2 (h.subset (look_mem h1))).symm
  | none =>
    cases h2 : look m' a with
    | none => rfl
    | some v =>
      have := (look_some_mem hd).2 (h.symm.subset (look_mem h2))
      rw [h1] at this; cases this
theorem put_filter {m : List (α × β)} (hd : (m.map (·.1)).Nodup) (a : α) (v : β) : (put m a v).Perm ((a, v) :: m.filter fun p => decide (p.1 ≠ a)) := by
  induction m with
  | nil => exact List.Perm.refl _
  | cons p r ih =>
    rw [List.map_cons, List.nodup_cons] at hd
    unfold put
    by_cases h : p.1 = a
    · rw [if_pos h, List.filter_cons_of_neg (by simp [h])]
      have : r.filter (fun p => decide (p.1 ≠ a)) = r := List.filter_eq_self.2 fun q hq => by
        have : q.1 ≠ a := fun e => hd.1 (List.mem_map.2 ⟨q, hq, e.trans h.symm⟩)
        simpa using this
      rw [this]
    · rw [if_neg h, List.filter_cons_of_pos (by simp [h])]
      exact ((ih hd.2).cons p).trans (List.Perm.swap _ _ _)
theorem put_perm {m m' : List (α × β)} (h : m.Perm m') (hd : (m.map (·.1)).Nodup) (a : α) (v : β) : (put m a v).Perm (put m' a v) :=
  (put_filter hd a v).trans (((h.filter _).cons (a, v)).trans (put_filter ((h.map (·.1)).nodup_iff.1 hd) a v).symm)
theorem put_nodup {m : List (α × β)} (hd : (m.map (·.1)).Nodup) (a : α) (v : β) : ((put m a v).map (·.1)).Nodup := by
  have h := (put_filter hd a v).map (·.1)
  refine h.nodup_iff.2 ?_
  rw [List.map_cons, List.nodup_cons]
  refine ⟨fun hm => ?_, hd.sublist (List.filter_sublist.map _)⟩
  obtain ⟨q, hq, e⟩ := List.mem_map.1 hm
  have := (List.mem_filter.1 hq).2
  simp [e] at this
end
theorem erL_put (m : List (Int × Nd)) (i : Int) (n : Nd) : erL (put m i n) = put (erL m) i n.er := by
  unfold erL
  induction m with
  | nil => rfl
  | cons p r ih =>
    simp only [List.map_cons]
    unfold put
    split
    · rfl
    · rw [← ih]; simp
theorem Rep.look {T : Tr} {E : Et} (h : Rep T E) (hd : (T.nodes.map (·.1)).Nodup) (i : Int) : (Go.Proofs.YtdjoahhcmkedhaaGreatDoor.look T.nodes i).map Nd.er = Go.Proofs.YtdjoahhcmkedhaaGreatDoor.look E.nodes i := by
  rw [← look_perm h.nodes (by rw [erL_keys]; exact hd) i]
  exact (look_map Nd.er T.nodes i).symm
theorem Rep.setN {T : Tr} {E : Et} (h : Rep T E) (hd : (T.nodes.map (·.1)).Nodup) (i : Int) (n : Nd) : Rep (T.setN i n) { E with nodes := put E.nodes i n.er } :=
  ⟨h.quota, h.next, by
    show (erL (put T.nodes i n)).Perm _
    rw [erL_put]
    exact put_perm h.nodes (by rw [erL_keys]; exact hd) i n.er⟩
theorem setN_nodup {T : Tr} (hd : (T.nodes.map (·.1)).Nodup) (i : Int) (n : Nd) : ((T.setN i n).nodes.map (·.1)).Nodup := put_nodup hd i n
theorem Rep.same {T T' : Tr} {E : Et} (h : Rep T E) (k : Same T T') : Rep T' E := ⟨k.quota.trans h.quota, k.next.trans h.next, k.nodes.trans h.nodes⟩
theorem Rep.count {T : Tr} {E : Et} (h : Rep T E) : T.nodes.length = E.nodes.length := by
  have := h.nodes.length_eq
  unfold erL at this
  simpa using this
def sumE (l : List (Int × ENd)) : Nat := (l.map fun p => p.2.data.length).sum
theorem Rep.sum {T : Tr} {E : Et} (h : Rep T E) : sumT T.nodes = sumE E.nodes := by
  have := (h.nodes.map fun p => p.2.data.length).sum_nat
  unfold erL at this
  rw [List.map_map] at this
  exact this
/-! ### Where things stand -/
def walkE (E : Et) (i : Int) : List (List UInt8) → Option Int
  | [] => some i
  | n :: r => match look E.nodes i with
    | none => none
    | some nd => match look nd.kids (toB n) with
      | none => none
      | some j => walkE E j r
theorem Rep.walk {T : Tr} {E : Et} (h : Rep T E) (hd : (T.nodes.map (·.1)).Nodup) (a : List (List UInt8)) : ∀ i, walkT T i a = walkE E i a := by
  induction a with
  | nil => intro i; rfl
  | cons x r ih =>
    intro i
    unfold walkT walkE
    rw [← h.look hd i]
    cases h1 : Go.Proofs.YtdjoahhcmkedhaaGreatDoor.look T.nodes i with
    | none => rfl
    | some nd =>
      show (match Go.Proofs.YtdjoahhcmkedhaaGreatDoor.look nd.kids (toB x) with | none => none | some j => walkT T j r) = (match Go.Proofs.YtdjoahhcmkedhaaGreatDoor.look nd.kids (toB x) with | none => none | some j => walkE E j r)
      cases Go.Proofs.YtdjoahhcmkedhaaGreatDoor.look nd.kids (toB x) with
      | none => rfl
      | some j => exact ih j
def placeE (E : Et) (l : List UInt8) : Int × Option (Int × ENd × List UInt8) := match (namesL l).getLast? with
  | none => (14, none)
  | some z => match walkE E 1 (namesL l).dropLast with
    | none => (8, none)
    | some j => match look E.nodes j with
      | none => (8, none)
      | some nd => if nd.dir then (0, some (j, nd, z)) else (11, none)
theorem Rep.place {T : Tr} {E : Et} (h : Rep T E) (hd : (T.nodes.map (·.1)).Nodup) {l : List UInt8} {j : Int} {en : ENd} {z : List UInt8} (hp : placeE E l = (0, some (j, en, z))) : ∃ nd k, placeT T l = (0, some (j, nd, z)) ∧ At T j nd k ∧ nd.er = en := by
  unfold placeE at hp
  unfold placeT
  cases h1 : (namesL l).getLast? with
  | none => rw [h1] at hp; cases hp
  | some z2 =>
    rw [h1] at hp
    rw [h.walk hd]
    simp only at hp ⊢
    cases h2 : walkE E 1 (namesL l).dropLast with
    | none => rw [h2] at hp; cases hp
    | some j2 =>
      rw [h2] at hp
      simp only at hp ⊢
      have hl := h.look hd j2
      cases h3 : Go.Proofs.YtdjoahhcmkedhaaGreatDoor.look T.nodes j2 with
      | none => rw [h3] at hl; rw [← hl] at hp; cases hp
      | some nd =>
        rw [h3] at hl
        rw [← hl] at hp
        simp only [Option.map_some] at hp ⊢
        have e : nd.er.dir = nd.k.isSome := rfl
        rw [e] at hp
        cases h4 : nd.k with
        | none => rw [h4] at hp; simp at hp
        | some k =>
          rw [h4] at hp
          simp only [Option.isSome_some, if_true, Prod.mk.injEq, Option.some.injEq, true_and] at hp
          obtain ⟨rfl, rfl, rfl⟩ := hp
          exact ⟨nd, k, by simp, ⟨h3, h4⟩, rfl⟩
end Go.Proofs.YtdjoahhcmkedhaaGreatDoor
end

/- Operations on the plain state. -/
section
namespace Go.Proofs.YtdjoahhcmkedhaaGreatDoor
open Go.RowKit
open Go.ChangeMaps (setBlock)
set_option linter.unusedVariables false
set_option linter.unusedSimpArgs false
set_option maxRecDepth 100000

def mkdirE (E : Et) (j : Int) (nd : ENd) (name : ByteArray) : Et := { E with next := E.next + 1, nodes := put (put E.nodes E.next ⟨true, [], [], 0⟩) j { nd with kids := put nd.kids name E.next } }
def createE (E : Et) (j : Int) (nd : ENd) (name : ByteArray) (zs : List Int) : Et := { E with next := E.next + 1, nodes := put (put (put E.nodes E.next ⟨false, [], zs, 0⟩) j { nd with kids := put nd.kids name E.next }) E.next ⟨false, [], zs, 1⟩ }
def putEx (E : Et) (j : Int) (name : ByteArray) (i : Int) : Et := match look E.nodes j, look E.nodes i with
  | some nd, some f => { E with nodes := put (put E.nodes j { nd with kids := put nd.kids name i }) i { f with places := f.places + 1 } }
  | _, _ => E
def takeEx (E : Et) (j : Int) (name : ByteArray) : Et := match look E.nodes j with
  | none => E
  | some nd => match look nd.kids name with
    | none => E
    | some i => match look E.nodes i with
      | none => E
      | some f => { E with nodes := put (put E.nodes i { f with places := f.places - 1 }) j { nd with kids := del nd.kids name } }
theorem Rep.mkdir {T : Tr} {E : Et} (h : Rep T E) (hd : (T.nodes.map (·.1)).Nodup) {j : Int} {nd n : Nd} (name : ByteArray) (hn : n.er = ⟨true, [], [], 0⟩) : Rep (mkdirT T j nd name n) (mkdirE E j nd.er name) := by
  have h1 : Rep { T with next := T.next + 1 } { E with next := E.next + 1 } := ⟨h.quota, by show T.next + 1 = E.next + 1; rw [h.next], h.nodes⟩
  have h2 := (h1.setN hd T.next n).setN (setN_nodup (T := { T with next := T.next + 1 }) hd T.next n) j { nd with kids := put nd.kids name T.next }
  rw [hn, show ({ nd with kids := put nd.kids name T.next } : Nd).er = { nd.er with kids := put nd.er.kids name T.next } from rfl, h.next] at h2
  have e : mkdirT T j nd name n = (({ T with next := T.next + 1 } : Tr).setN T.next n).setN j { nd with kids := put nd.kids name T.next } := rfl
  rw [e, h.next]
  exact h2
theorem Rep.create {T : Tr} {E : Et} (h : Rep T E) (hd : (T.nodes.map (·.1)).Nodup) {j : Int} {nd n : Nd} (name : ByteArray) {zs : List Int} (hn : n.er = ⟨false, [], zs, 0⟩) : Rep (createT T j nd name n) (createE E j nd.er name zs) := by
  have h1 : Rep { T with next := T.next + 1 } { E with next := E.next + 1 } := ⟨h.quota, by show T.next + 1 = E.next + 1; rw [h.next], h.nodes⟩
  have d1 := setN_nodup (T := { T with next := T.next + 1 }) hd T.next n
  have h2 := ((h1.setN hd T.next n).setN d1 j { nd with kids := put nd.kids name T.next }).setN (setN_nodup d1 j { nd with kids := put nd.kids name T.next }) T.next { n with places := n.places + 1 }
  have hp : n.places = 0 := congrArg ENd.places hn
  have hd2 : n.data = zs := congrArg ENd.data hn
  have hk2 : n.kids = [] := congrArg ENd.kids hn
  have hb2 : n.k.isSome = false := congrArg ENd.dir hn
  rw [show ({ n with places := n.places + 1 } : Nd).er = ⟨false, [], zs, 1⟩ by unfold Nd.er; simp only [hp, hd2, hk2, hb2]; rfl, hn, show ({ nd with kids := put nd.kids name T.next } : Nd).er = { nd.er with kids := put nd.er.kids name T.next } from rfl, h.next] at h2
  have e : createT T j nd name n = ((({ T with next := T.next + 1 } : Tr).setN T.next n).setN j { nd with kids := put nd.kids name T.next }).setN T.next { n with places := n.places + 1 } := rfl
  rw [e, h.next]
  exact h2
theorem Rep.put {T : Tr} {E : Et} (h : Rep T E) (hd : (T.nodes.map (·.1)).Nodup) (j : Int) (name : ByteArray) (i : Int) : Rep (putTx T j name i) (putEx E j name i) := by
  unfold putTx putEx
  rw [← h.look hd j, ← h.look hd i]
  cases Go.Proofs.YtdjoahhcmkedhaaGreatDoor.look T.nodes j with
  | none => exact h
  | some nd =>
    cases Go.Proofs.YtdjoahhcmkedhaaGreatDoor.look T.nodes i with
    | none => exact h
    | some f => exact (h.setN hd j { nd with kids := Go.Proofs.YtdjoahhcmkedhaaGreatDoor.put nd.kids name i }).setN (setN_nodup hd j { nd with kids := Go.Proofs.YtdjoahhcmkedhaaGreatDoor.put nd.kids name i }) i { f with places := f.places + 1 }
theorem Rep.take {T : Tr} {E : Et} (h : Rep T E) (hd : (T.nodes.map (·.1)).Nodup) (j : Int) (name : ByteArray) : Rep (takeTx T j name) (takeEx E j name) := by
  unfold takeTx takeEx
  rw [← h.look hd j]
  cases h1 : Go.Proofs.YtdjoahhcmkedhaaGreatDoor.look T.nodes j with
  | none => exact h
  | some nd =>
    show Rep (match Go.Proofs.YtdjoahhcmkedhaaGreatDoor.look nd.kids name with | none => T | some i => _) (match Go.Proofs.YtdjoahhcmkedhaaGreatDoor.look nd.kids name with | none => E | some i => _)
    cases Go.Proofs.YtdjoahhcmkedhaaGreatDoor.look nd.kids name with
    | none => exact h
    | some i =>
      simp only
      rw [← h.look hd i]
      cases h2 : Go.Proofs.YtdjoahhcmkedhaaGreatDoor.look T.nodes i with
      | none => exact h
      | some f => exact (h.setN hd i { f with places := f.places - 1 }).setN (setN_nodup hd i { f with places := f.places - 1 }) j { nd with kids := del nd.kids name }
theorem takeTx_nodup {T : Tr} (hd : (T.nodes.map (·.1)).Nodup) (j : Int) (name : ByteArray) : ((takeTx T j name).nodes.map (·.1)).Nodup := by
  unfold takeTx
  split
  · exact hd
  · split
    · exact hd
    · split
      · exact hd
      · exact setN_nodup (setN_nodup hd _ _) _ _
theorem Rep.write {T : Tr} {E : Et} (h : Rep T E) (hd : (T.nodes.map (·.1)).Nodup) (i : Int) {f2 : Nd} {ef : ENd} {zs : List Int} (hf : f2.er = { ef with data := zs }) : Rep (T.setN i f2) { E with nodes := Go.Proofs.YtdjoahhcmkedhaaGreatDoor.put E.nodes i { ef with data := zs } } := by
  have := h.setN hd i f2
  rwa [hf] at this
structure OpE where
  kind : Int
  l : List UInt8
  l2 : List UInt8
  zs : List Int
/-- An operation that goes well, and what it makes of a tree. -/
def doE (E : Et) (o : OpE) : Option Et := if o.zs.length ≤ 3500 then (match placeE E o.l with
  | (0, some (j, nd, z)) => match look nd.kids (toB z) with
    | none => if o.kind = 0 then some (mkdirE E j nd (toB z)) else if o.kind = 2 then some (createE E j nd (toB z) o.zs) else none
    | some i => match look E.nodes i with
      | none => none
      | some f => if f.dir = false ∧ 1 ≤ f.places ∧ f.places ≤ 1000000000 then
          (if o.kind = 3 then some { E with nodes := put E.nodes i { f with data := o.zs } }
          else if o.kind = 6 then some (takeEx E j (toB z))
          else match placeE E o.l2 with
            | (0, some (jb, ndb, zb)) =>
              if o.kind = 4 then (match look ndb.kids (toB zb) with
                | none => some (putEx E jb (toB zb) i)
                | some _ => none)
              else if o.kind = 5 then (match look ndb.kids (toB zb) with
                | none => some (putEx (takeEx E j (toB z)) jb (toB zb) i)
                | some old => match look E.nodes old with
                  | none => none
                  | some fo => if fo.dir = false ∧ 0 ≤ fo.places ∧ fo.places ≤ 1000000000 then
                      (if old = i then some E else some (putEx (takeEx (takeEx E jb (toB zb)) j (toB z)) jb (toB zb) i)) else none)
              else none
            | _ => none) else none
  | _ => none) else none
theorem DoL.imp {w0 w w' : World} {S : Blocks} {L : List Rw} {t : Nat} {T : Tr} {R R' : Tr → Prop} {r : Value} {e : Ending} (h : DoL w0 S L t T w R r e w') (hR : ∀ T', R T' → R' T') : DoL w0 S L t T w R' r e w' := by
  obtain ⟨S', L', T', h1, h2, h3, h4, h5, h6⟩ := h
  exact ⟨S', L', T', h1, h2, h3, h4, h5, hR _ h6⟩
theorem Rep.file {T : Tr} {E : Et} (h : Rep T E) (hd : (T.nodes.map (·.1)).Nodup) {i : Int} {ef : ENd} (he : Go.Proofs.YtdjoahhcmkedhaaGreatDoor.look E.nodes i = some ef) (h1 : ef.dir = false) (h2 : 0 ≤ ef.places) (h3 : ef.places ≤ 1000000000) : ∃ f, Fl T i f ∧ f.er = ef := by
  have hl := h.look hd i
  rw [he] at hl
  cases hf : Go.Proofs.YtdjoahhcmkedhaaGreatDoor.look T.nodes i with
  | none => rw [hf] at hl; cases hl
  | some f =>
    rw [hf] at hl
    have e : f.er = ef := by injection hl
    refine ⟨f, ⟨hf, ?_, ?_, ?_⟩, e⟩
    · have : f.k.isSome = false := (congrArg ENd.dir e).trans h1
      cases hk : f.k with
      | none => rfl
      | some k => rw [hk] at this; cases this
    · have := congrArg ENd.places e
      show 0 ≤ f.places
      rw [show f.places = ef.places from this]; exact h2
    · have := congrArg ENd.places e
      show f.places ≤ _
      rw [show f.places = ef.places from this]; exact h3
end Go.Proofs.YtdjoahhcmkedhaaGreatDoor
end
