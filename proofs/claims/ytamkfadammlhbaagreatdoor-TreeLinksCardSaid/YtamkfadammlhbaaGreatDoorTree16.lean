/- turn. -/
import Derived.Test.YtamkfadammlhbaaGreatDoorTree15
namespace Go.Proofs.YtamkfadammlhbaaGreatDoor
open Go.RowKit
open Go.ChangeMaps (setBlock)
set_option linter.unusedVariables false
set_option linter.unusedSimpArgs false
set_option maxRecDepth 100000

theorem DoL.more {w0 w w2 w' : World} {S S2 : Blocks} {L : List Rw} {t : Nat} {T : Tr} {R : Tr → Prop} {r : Value} {e : Ending} (h : DoL w0 S2 L t T w2 R r e w') (hs : ∀ b x, (b, x) ∈ S → (b, x) ∈ S2) (hw : w.heap.size ≤ w2.heap.size) (hlt : ∀ b x, (b, x) ∈ S → b < w.heap.size) : DoL w0 S L t T w R r e w' := by
  obtain ⟨S', L', T', h1, h2, h3, h4, h5, h6⟩ := h
  exact ⟨S', L', T', h1, h2, h3, h4, Frame.more hs h5 hw hlt, h6⟩
theorem two_boxes0 {w0 w : World} {S : Blocks} {L : List Rw} {t : Nat} {T : Tr} (hO : Own ⟨w0, S⟩ w L) (H : Tree S (Pc L) t T) (P Q : Obj) : ∃ w1 S2, w1 = (w.alloc P).alloc Q ∧ w1.heap.size = w.heap.size + 2 ∧ Own ⟨w0, S2⟩ w1 L ∧ Tree S2 (Pc L) t T ∧ (w.heap.size, P) ∈ S2 ∧ (w.heap.size + 1, Q) ∈ S2 ∧ (∀ b x, (b, x) ∈ S → (b, x) ∈ S2) ∧ (∀ b x, (b, x) ∈ S → b < w.heap.size) ∧ (∀ b ∈ t :: T.foot, b < w.heap.size) := by
  have h2 := (hO.newB P).newB Q
  rw [show (w.alloc P).heap.size = w.heap.size + 1 by simp] at h2
  refine ⟨_, (w.heap.size + 1, Q) :: (w.heap.size, P) :: S, rfl, by simp, h2, H.mono (fun b x _ hx => List.mem_cons_of_mem _ (List.mem_cons_of_mem _ hx)) (fun _ _ h => h), List.mem_cons_of_mem _ (List.mem_cons_self ..), List.mem_cons_self .., fun b x hb => List.mem_cons_of_mem _ (List.mem_cons_of_mem _ hb), fun b x hb => (hO.atLt hb).2, fun b hb => ?_⟩
  obtain ⟨x, hx⟩ := kept_in H.at_ b hb
  exact (hO.atLt hx).2
set_option maxHeartbeats 2000000 in
theorem turn_unlink {w0 w : World} {S : Blocks} {L : List Rw} {t : Nat} {T : Tr} (hO : Own ⟨w0, S⟩ w L) (H : Tree S (Pc L) t T) {ja i : Int} {nda f : Nd} {ka : Nat} (ha : At T ja nda ka) {na : ByteArray} (hs : look nda.kids na = some i) (g : Fl T i f)
    (p q : ByteArray) (v : Value) (hv : ∃ a n c, v = .slice a n c) :
    Calls Tryz.prog 68 #[.pointer (some ⟨t, 0, none⟩), .agg #[.pointer (some ⟨nda.b, 0, none⟩), .string na], .int .i64 i, .agg (opL 6 p q v).toArray] w (DoL w0 S L t T w (fun T2 => T2 = takeTx T ja na) (.int .i64 0)) := by
  obtain ⟨va, vn, vc, rfl⟩ := hv
  obtain ⟨w1, S2, hw1, hsz, hO2, H1, m1, m2, hsub, hlt, hlow⟩ := two_boxes0 hO H (boxP nda na) (.cells #[.int .i64 6, .string p, .string q, .slice va vn vc] 38)
  have p0 : w1.cell? ⟨w.heap.size, 0, none⟩ = some (.pointer (some ⟨nda.b, 0, none⟩)) := by rw [hO2.cellB m1]; rfl
  have p1 : w1.cell? ⟨w.heap.size, 1, none⟩ = some (.string na) := by rw [hO2.cellB m1]; rfl
  have q0 : w1.cell? ⟨w.heap.size + 1, 0, none⟩ = some (.int .i64 6) := by rw [hO2.cellB m2]; rfl
  have hT : Calls Tryz.prog 89 #[.pointer (some ⟨t, 0, none⟩), .agg #[.pointer (some ⟨nda.b, 0, none⟩), .string na]] w1 (fun e w2 => e = .returned (.tuple #[]) ∧ DoL w0 S L t T w (fun T2 => T2 = takeTx T ja na) (.int .i64 0) (.returned (.int .i64 0)) w2) :=
    (take_on hO2 H1 ha hs g).mono fun e w2 hd => by
      obtain ⟨e1, S3, h1, h2, h3⟩ := hd
      exact ⟨e1, S3, L, _, rfl, h1, fun _ h => h, h2, Frame.more hsub h3 (by omega) hlt, rfl⟩
  rw [hw1] at p0 p1 q0 hT
  clear hO H H1 ha hs g m1 m2 hsub hlt hlow hsz hO2 hw1
  go_enter Tryz.func68, Tryz.ntmps68
  go_wp2_with fail
  refine hT.mono ?_
  rintro e w2 ⟨rfl, hD⟩
  have HP := Lib.hid hD
  clear hD
  go_wp2_with fail
  go_ret
  exact HP.out
set_option maxHeartbeats 2000000 in
theorem turn_write {w0 w : World} {S : Blocks} {L : List Rw} {t : Nat} {T : Tr} (hO : Own ⟨w0, S⟩ w L) (H : Tree S (Pc L) t T) {i : Int} {nda f : Nd} {na : ByteArray} (g : Fl T i f)
    (p q : ByteArray) (v : Value) (zs : List Int) (hv : Byo w0 S (t :: T.foot) L v zs) (hlen : zs.length ≤ 140737488355328) :
    Calls Tryz.prog 68 #[.pointer (some ⟨t, 0, none⟩), .agg #[.pointer (some ⟨nda.b, 0, none⟩), .string na], .int .i64 i, .agg (opL 3 p q v).toArray] w (DoL w0 S L t T w (fun T2 => ∃ f2 : Nd, f2.er = { f.er with data := zs } ∧ T2 = T.setN i f2) (.int .i64 0)) := by
  have hcl0 := fun (w' : World) (S' : Blocks) (hs : ∀ b x, (b, x) ∈ S → b ∉ t :: T.foot → (b, x) ∈ S') (h : Own ⟨w0, S'⟩ w' L) => clone_any v zs w' (hv.by hs h) hlen
  have hz : Byts zs := (hv.by (fun _ _ h _ => h) hO).2.1
  obtain ⟨va, vc, rfl⟩ := hv.form
  obtain ⟨vn, hvn⟩ : ∃ vn, vn = zs.length := ⟨_, rfl⟩
  rw [← hvn] at hcl0 ⊢
  obtain ⟨w1, S2, hw1, hsz, hO2, H1, m1, m2, hsub, hlt, hlow⟩ := two_boxes0 hO H (boxP nda na) (.cells #[.int .i64 3, .string p, .string q, .slice va vn vc] 38)
  have hO1 := hO2.drew
  have hcl := hcl0 _ _ (fun b x hb _ => hsub b x hb) hO1
  have q0 : w1.cell? ⟨w.heap.size + 1, 0, none⟩ = some (.int .i64 3) := by rw [hO2.cellB m2]; rfl
  have hF := H1.at_.node _ (look_mem g.there)
  have hs1 : w1.drew.cell? ⟨t, 2, none⟩ = some (.map (some T.bm)) ∧ w1.drew.cell? ⟨w.heap.size + 1, 3, none⟩ = some (.slice va vn vc) := ⟨(H1.at_.inWorld hO1).at0.2.2, by rw [hO1.cellB m2]; rfl⟩
  have hl1 := (H1.at_.inWorld hO1).look i
  rw [g.there] at hl1
  dsimp only [ptrOf] at hl1
  have hgen : ∀ (w7 : World) (a7 : Option Addr) (c7 : Nat), Own w1.drew w7 [rowU (.slice a7 zs.length c7) zs] →
      (w7.cell? ⟨t, 2, none⟩ = some (.map (some T.bm)) ∧ w7.cell? ⟨w.heap.size + 1, 3, none⟩ = some (.slice va vn vc)) ∧
      (Instr.lookup 73 (.map (some T.bm)) (.int .i64 i) false).run Tryz.prog w7 = .ok (.pointer (some ⟨f.b, 0, none⟩)) w7 ∧
      w7.cell? ⟨f.b, 1, none⟩ = some f.dv ∧ w7.frozen? ⟨f.b, 1, none⟩ = false ∧
      ((w7.setCell ⟨f.b, 1, none⟩ (.slice a7 zs.length c7)).cell? ⟨t, 2, none⟩ = some (.map (some T.bm)) ∧ (w7.setCell ⟨f.b, 1, none⟩ (.slice a7 zs.length c7)).cell? ⟨w.heap.size + 1, 3, none⟩ = some (.slice va vn vc)) ∧
      DoL w0 S L t T w (fun T2 => ∃ f2 : Nd, f2.er = { f.er with data := zs } ∧ T2 = T.setN i f2) (.int .i64 0) (.returned (.int .i64 0)) (w7.setCell ⟨f.b, 1, none⟩ (.slice a7 zs.length c7)) := by
    intro w7 a7 c7 h7
    have g7 := hO1.join h7
    have hpc : Pc ([rowU (.slice a7 zs.length c7) zs] ++ L) (.slice a7 zs.length c7) zs := Pc.all g7 hz
    have H7 := H1.mono (D2 := Pc ([rowU (.slice a7 zs.length c7) zs] ++ L)) (fun b x _ hx => hx) (fun v zs h => h.mono fun r hr => List.mem_append_right _ hr)
    have hl7 := (H7.at_.inWorld g7).look i
    rw [g.there] at hl7
    have H8 := H7.setCells g.there { f with dv := .slice a7 zs.length c7, data := zs } rfl rfl rfl hpc ⟨a7, c7, rfl⟩
    have g8 := g7.storeB hF.cells 1 (.slice a7 zs.length c7)
    have hfb := foot_node g.there
    have hmx : (w.heap.size + 1) ≠ f.b := fun e => by have := hlow f.b (List.mem_cons_of_mem _ hfb.1); omega
    have m2' := upd_other m2 hmx (.cells (nodeCells { f with dv := .slice a7 zs.length c7, data := zs }) 86)
    have g8' : Own ⟨w0, upd S2 f.b (.cells (nodeCells { f with dv := .slice a7 zs.length c7, data := zs }) 86)⟩ (w7.setCell ⟨f.b, 1, none⟩ (.slice a7 zs.length c7)) ([rowU (.slice a7 zs.length c7) zs] ++ L) := g8
    refine ⟨⟨(H7.at_.inWorld g7).at0.2.2, by rw [g7.cellB m2]; rfl⟩, hl7, by rw [g7.cellB hF.cells]; rfl, free_at (g7.at hF.cells) 1, ⟨(H8.at_.inWorld g8').at0.2.2, by rw [g8'.cellB m2']; rfl⟩, _, _, _, rfl, g8', fun r hr => List.mem_append_right _ hr, H8, ?_, _, rfl, rfl⟩
    have e : (T.setN i { f with dv := .slice a7 zs.length c7, data := zs }).foot = T.foot := setN_foot g.there rfl rfl
    refine ⟨fun b x hb hnb => upd_other (hsub b x hb) (fun e => hnb (e ▸ List.mem_cons_of_mem _ hfb.1)) _, fun b hb => .inl (by rwa [e] at hb)⟩
  have hfd := hF.form
  obtain ⟨fa, fc, hfv⟩ := hfd
  rw [hfv] at hgen
  rw [hw1] at q0
  clear hO H hO1 H1 m1 m2 hsub hlt hlow hsz hO2 hF hv hlen hcl0 hvn g hfv
  go_enter Tryz.func68, Tryz.ntmps68
  go_wp2_with fail
  rw [← hw1]
  clear hw1
  go_region_held3 (fun w' : World => w'.cell? ⟨t, 2, none⟩ = some (.map (some T.bm)) ∧ w'.cell? ⟨w.heap.size + 1, 3, none⟩ = some (.slice va vn vc)) (first | exact hs1 | exact s3 | exact s1) (first | (go_at_call 59; refine hcl.mono ?_; rintro e w7 ⟨v7, rfl, h7⟩; obtain ⟨a7, c7, rfl, _, _⟩ := Own.sized (h := (show Own w1.drew w7 (⟨5, 1, v7, zs.length, bs zs⟩ :: []) from h7)); obtain ⟨s1, hl7, f1, fz1, s3, hD⟩ := hgen w7 a7 c7 h7))
  all_goals (have HP := Lib.hid hD)
  all_goals clear hD hgen hcl
  all_goals go_wp2_with fail
  all_goals go_ret
  all_goals exact HP.out
end Go.Proofs.YtamkfadammlhbaaGreatDoor
