/- Texts one behind the other, each in a section of its own: what calls make of memory, step by step. -/
import Derived.Test.YtkhnkidggcjfeaaGreatDoorPackNeedHits6
import Derived.Deep.RegionHeld3
import Derived.Laws.IdiomCopy
set_option linter.unusedVariables false
set_option linter.unusedSimpArgs false
set_option maxRecDepth 100000
section
namespace Go.Proofs.YtkhnkidggcjfeaaGreatDoor
open Go.RowKit
open Go.ChangeMaps (setBlock)
theorem DoL.ret {w0 w w' : World} {S : Blocks} {L : List Rw} {t : Nat} {T : Tr} {R : Tr → Prop} {r : Value} {e : Ending} (h : DoL w0 S L t T w R r e w') (r' : Value) : e = .returned r ∧ DoL w0 S L t T w R r' (.returned r') w' := by
  obtain ⟨S', L', T', h1, h2, h3, h4, h5, h6⟩ := h
  exact ⟨h1, S', L', T', rfl, h2, h3, h4, h5, h6⟩
theorem one_box {w0 w : World} {S : Blocks} {L : List Rw} {t : Nat} {T : Tr} (hO : Own ⟨w0, S⟩ w L) (H : Tree S (Pc L) t T) (P : Obj) : ∃ w1 S2, w1 = w.alloc P ∧ w1.heap.size = w.heap.size + 1 ∧ Own ⟨w0, S2⟩ w1 L ∧ Tree S2 (Pc L) t T ∧ (w.heap.size, P) ∈ S2 ∧ (∀ b x, (b, x) ∈ S → (b, x) ∈ S2) ∧ (∀ b x, (b, x) ∈ S → b < w.heap.size) ∧ Below w.heap.size w w1 :=
  ⟨_, (w.heap.size, P) :: S, rfl, by simp, hO.newB P, H.mono (fun b x _ hx => List.mem_cons_of_mem _ hx) (fun _ _ h => h), List.mem_cons_self .., fun b x hb => List.mem_cons_of_mem _ hb, fun b x hb => (hO.atLt hb).2, (Below.refl _ w).alloc (Nat.le_refl _) _⟩
set_option maxHeartbeats 4000000 in
theorem do_grow0 {w0 w : World} {S : Blocks} {L : List Rw} {t : Nat} {T : Tr} (hO : Own ⟨w0, S⟩ w L) (H : Tree S (Pc L) t T) (hm : Mx w) (p q : ByteArray) (hp : p.size ≤ maxLen) {va : Option Addr} {vn vc : Nat} (hvn : vn ≤ 3500)
    {j : Int} {nd : Nd} {k : Nat} {z : List UInt8} (hc : placeT T p.data.toList = (0, some (j, nd, z))) (ha : At T j nd k) (hx : look nd.kids (toB z) = none) {R : Tr → Prop} 
    (hcall : ∀ S' w', Own ⟨w0, S'⟩ w' L → Tree S' (Pc L) t T → (∀ b x, (b, x) ∈ S → (b, x) ∈ S') → Mx w' → Calls Tryz.prog 94 #[.pointer (some ⟨t, 0, none⟩), .agg #[.pointer (some ⟨nd.b, 0, none⟩), .string (toB z)], .agg (opL 0 p q (.slice va vn vc)).toArray] w' (DoL w0 S' L t T w' R (.tuple #[]))) :
    Calls Tryz.prog 59 #[.pointer (some ⟨t, 0, none⟩), .agg (opL 0 p q (.slice va vn vc)).toArray] w (DoL w0 S L t T w R (.int .i64 0)) := by
  obtain ⟨w1, S2, hw1, hsz, hO2, H1, m1, hsub, hlt, hB1⟩ := one_box hO H (.cells #[.int .i64 0, .string p, .string q, .slice va vn vc] 40)
  have o0 : w1.cell? ⟨w.heap.size, 0, none⟩ = some (.int .i64 0) := by rw [hO2.cellB m1]; rfl
  have o1 : w1.cell? ⟨w.heap.size, 1, none⟩ = some (.string p) := by rw [hO2.cellB m1]; rfl
  have hpl := place_any (H1.at_.inWorld hO2) H.good p hp (hm.later hB1)
  rw [hc] at hpl
  have HO2 := Lib.hid hO2
  have hgen : ∀ w2, Own ⟨w0, S2⟩ w2 L → w.heap.size ≤ w2.heap.size → Mx w2 → (w2.alloc (boxP nd (toB z))).cell? ⟨w.heap.size, 3, none⟩ = some (.slice va vn vc) ∧
      ((w2.alloc (boxP nd (toB z))).drew.cell? ⟨w2.heap.size, 0, none⟩ = some (.pointer (some ⟨nd.b, 0, none⟩)) ∧ (w2.alloc (boxP nd (toB z))).drew.cell? ⟨w2.heap.size, 1, none⟩ = some (.string (toB z))) ∧
      ((w2.alloc (boxP nd (toB z))).drew.cell? ⟨w.heap.size, 0, none⟩ = some (.int .i64 0) ∧ (w2.alloc (boxP nd (toB z))).drew.cell? ⟨w.heap.size, 1, none⟩ = some (.string p) ∧ (w2.alloc (boxP nd (toB z))).drew.cell? ⟨w.heap.size, 2, none⟩ = some (.string q) ∧ (w2.alloc (boxP nd (toB z))).drew.cell? ⟨w.heap.size, 3, none⟩ = some (.slice va vn vc)) ∧
      (w2.alloc (boxP nd (toB z))).drew.cell? ⟨nd.b, 0, none⟩ = some (.map (some k)) ∧
      (Instr.lookup 29 (.map (some k)) (.string (toB z)) true).run Tryz.prog (w2.alloc (boxP nd (toB z))).drew = .ok (.tuple #[.int .i64 0, .bool false]) (w2.alloc (boxP nd (toB z))).drew ∧
      Calls Tryz.prog 94 #[.pointer (some ⟨t, 0, none⟩), .agg #[.pointer (some ⟨nd.b, 0, none⟩), .string (toB z)], .agg (opL 0 p q (.slice va vn vc)).toArray] (w2.alloc (boxP nd (toB z))).drew (fun e w' => e = .returned (.tuple #[]) ∧ DoL w0 S L t T w R (.int .i64 0) (.returned (.int .i64 0)) w') := by
    intro w2 h2 h3 hm2
    have h4 := h2.alloc (boxP nd (toB z))
    have h5 := h4.drew
    have b0 : (w2.alloc (boxP nd (toB z))).drew.cell? ⟨w2.heap.size, 0, none⟩ = some (.pointer (some ⟨nd.b, 0, none⟩)) := by show (w2.alloc _).cell? _ = _; rw [World.cell?_alloc_new]; rfl
    have b1 : (w2.alloc (boxP nd (toB z))).drew.cell? ⟨w2.heap.size, 1, none⟩ = some (.string (toB z)) := by show (w2.alloc _).cell? _ = _; rw [World.cell?_alloc_new]; rfl
    have hNW := (H1.at_.inWorld h5).node _ (look_mem ha.there)
    obtain ⟨c0, _, _⟩ := hNW.at0
    rw [ha.dir] at c0
    have hl := hNW.look ha.dir (toB z)
    rw [hx] at hl
    dsimp only [Option.getD_none, Option.isSome_none] at hl
    refine ⟨by rw [h4.cellB m1]; rfl, ⟨b0, b1⟩, ⟨by rw [h5.cellB m1]; rfl, by rw [h5.cellB m1]; rfl, by rw [h5.cellB m1]; rfl, by rw [h5.cellB m1]; rfl⟩, c0, hl, (hcall S2 _ h5 H1 hsub (hm2.later (((Below.refl _ w2).alloc (Nat.le_refl _) _).drew))).mono fun e w' hd => ?_⟩
    obtain ⟨e1, hd2⟩ := hd.ret (.int .i64 0)
    subst e1
    exact ⟨rfl, hd2.more hsub (by show _ ≤ (w2.alloc _).heap.size; simp; omega) hlt⟩
  have hsz1 : w.heap.size ≤ w1.heap.size := by omega
  have hm1 := hm.later hB1
  rw [hw1] at o0 o1 hpl
  clear hO H hO2 H1 m1 hsub hlt hsz hc hm hB1 hcall ha hx
  dsimp only [placeL] at hpl
  go_enter Tryz.func59, Tryz.ntmps59
  go_wp2_with fail
  refine hpl.mono ?_
  rintro e w2 ⟨rfl, hb⟩
  rw [← hw1] at hb
  have hO3 := HO2.out.later hb
  obtain ⟨x3, ⟨b0, b1⟩, ⟨y0, y1, y2, y3⟩, n0, hl, hcl⟩ := hgen w2 hO3 (Nat.le_trans hsz1 hb.size) (hm1.later hb)
  clear o0 o1 hpl hw1 hb hO3 hgen hsz1 HO2 hm1
  go_wp2_with fail
  go_region
  go_wp2_with fail
  refine hcl.mono ?_
  rintro e w3 ⟨rfl, hD⟩
  have HD := Lib.hid hD
  clear hD hcl
  go_wp2_with fail
  go_ret
  exact HD.out
set_option maxHeartbeats 4000000 in
theorem do_grow2 {w0 w : World} {S : Blocks} {L : List Rw} {t : Nat} {T : Tr} (hO : Own ⟨w0, S⟩ w L) (H : Tree S (Pc L) t T) (hm : Mx w) (p q : ByteArray) (hp : p.size ≤ maxLen) {va : Option Addr} {vn vc : Nat} (hvn : vn ≤ 3500)
    {j : Int} {nd : Nd} {k : Nat} {z : List UInt8} (hc : placeT T p.data.toList = (0, some (j, nd, z))) (ha : At T j nd k) (hx : look nd.kids (toB z) = none) {R : Tr → Prop} 
    (hcall : ∀ S' w', Own ⟨w0, S'⟩ w' L → Tree S' (Pc L) t T → (∀ b x, (b, x) ∈ S → (b, x) ∈ S') → Mx w' → Calls Tryz.prog 94 #[.pointer (some ⟨t, 0, none⟩), .agg #[.pointer (some ⟨nd.b, 0, none⟩), .string (toB z)], .agg (opL 2 p q (.slice va vn vc)).toArray] w' (DoL w0 S' L t T w' R (.tuple #[]))) :
    Calls Tryz.prog 59 #[.pointer (some ⟨t, 0, none⟩), .agg (opL 2 p q (.slice va vn vc)).toArray] w (DoL w0 S L t T w R (.int .i64 0)) := by
  obtain ⟨w1, S2, hw1, hsz, hO2, H1, m1, hsub, hlt, hB1⟩ := one_box hO H (.cells #[.int .i64 2, .string p, .string q, .slice va vn vc] 40)
  have o0 : w1.cell? ⟨w.heap.size, 0, none⟩ = some (.int .i64 2) := by rw [hO2.cellB m1]; rfl
  have o1 : w1.cell? ⟨w.heap.size, 1, none⟩ = some (.string p) := by rw [hO2.cellB m1]; rfl
  have hpl := place_any (H1.at_.inWorld hO2) H.good p hp (hm.later hB1)
  rw [hc] at hpl
  have HO2 := Lib.hid hO2
  have hgen : ∀ w2, Own ⟨w0, S2⟩ w2 L → w.heap.size ≤ w2.heap.size → Mx w2 → (w2.alloc (boxP nd (toB z))).cell? ⟨w.heap.size, 3, none⟩ = some (.slice va vn vc) ∧
      ((w2.alloc (boxP nd (toB z))).drew.cell? ⟨w2.heap.size, 0, none⟩ = some (.pointer (some ⟨nd.b, 0, none⟩)) ∧ (w2.alloc (boxP nd (toB z))).drew.cell? ⟨w2.heap.size, 1, none⟩ = some (.string (toB z))) ∧
      ((w2.alloc (boxP nd (toB z))).drew.cell? ⟨w.heap.size, 0, none⟩ = some (.int .i64 2) ∧ (w2.alloc (boxP nd (toB z))).drew.cell? ⟨w.heap.size, 1, none⟩ = some (.string p) ∧ (w2.alloc (boxP nd (toB z))).drew.cell? ⟨w.heap.size, 2, none⟩ = some (.string q) ∧ (w2.alloc (boxP nd (toB z))).drew.cell? ⟨w.heap.size, 3, none⟩ = some (.slice va vn vc)) ∧
      (w2.alloc (boxP nd (toB z))).drew.cell? ⟨nd.b, 0, none⟩ = some (.map (some k)) ∧
      (Instr.lookup 29 (.map (some k)) (.string (toB z)) true).run Tryz.prog (w2.alloc (boxP nd (toB z))).drew = .ok (.tuple #[.int .i64 0, .bool false]) (w2.alloc (boxP nd (toB z))).drew ∧
      Calls Tryz.prog 94 #[.pointer (some ⟨t, 0, none⟩), .agg #[.pointer (some ⟨nd.b, 0, none⟩), .string (toB z)], .agg (opL 2 p q (.slice va vn vc)).toArray] (w2.alloc (boxP nd (toB z))).drew (fun e w' => e = .returned (.tuple #[]) ∧ DoL w0 S L t T w R (.int .i64 0) (.returned (.int .i64 0)) w') := by
    intro w2 h2 h3 hm2
    have h4 := h2.alloc (boxP nd (toB z))
    have h5 := h4.drew
    have b0 : (w2.alloc (boxP nd (toB z))).drew.cell? ⟨w2.heap.size, 0, none⟩ = some (.pointer (some ⟨nd.b, 0, none⟩)) := by show (w2.alloc _).cell? _ = _; rw [World.cell?_alloc_new]; rfl
    have b1 : (w2.alloc (boxP nd (toB z))).drew.cell? ⟨w2.heap.size, 1, none⟩ = some (.string (toB z)) := by show (w2.alloc _).cell? _ = _; rw [World.cell?_alloc_new]; rfl
    have hNW := (H1.at_.inWorld h5).node _ (look_mem ha.there)
    obtain ⟨c0, _, _⟩ := hNW.at0
    rw [ha.dir] at c0
    have hl := hNW.look ha.dir (toB z)
    rw [hx] at hl
    dsimp only [Option.getD_none, Option.isSome_none] at hl
    refine ⟨by rw [h4.cellB m1]; rfl, ⟨b0, b1⟩, ⟨by rw [h5.cellB m1]; rfl, by rw [h5.cellB m1]; rfl, by rw [h5.cellB m1]; rfl, by rw [h5.cellB m1]; rfl⟩, c0, hl, (hcall S2 _ h5 H1 hsub (hm2.later (((Below.refl _ w2).alloc (Nat.le_refl _) _).drew))).mono fun e w' hd => ?_⟩
    obtain ⟨e1, hd2⟩ := hd.ret (.int .i64 0)
    subst e1
    exact ⟨rfl, hd2.more hsub (by show _ ≤ (w2.alloc _).heap.size; simp; omega) hlt⟩
  have hsz1 : w.heap.size ≤ w1.heap.size := by omega
  have hm1 := hm.later hB1
  rw [hw1] at o0 o1 hpl
  clear hO H hO2 H1 m1 hsub hlt hsz hc hm hB1 hcall ha hx
  dsimp only [placeL] at hpl
  go_enter Tryz.func59, Tryz.ntmps59
  go_wp2_with fail
  refine hpl.mono ?_
  rintro e w2 ⟨rfl, hb⟩
  rw [← hw1] at hb
  have hO3 := HO2.out.later hb
  obtain ⟨x3, ⟨b0, b1⟩, ⟨y0, y1, y2, y3⟩, n0, hl, hcl⟩ := hgen w2 hO3 (Nat.le_trans hsz1 hb.size) (hm1.later hb)
  clear o0 o1 hpl hw1 hb hO3 hgen hsz1 HO2 hm1
  go_wp2_with fail
  go_region
  go_wp2_with fail
  refine hcl.mono ?_
  rintro e w3 ⟨rfl, hD⟩
  have HD := Lib.hid hD
  clear hD hcl
  go_wp2_with fail
  go_ret
  exact HD.out
set_option maxHeartbeats 4000000 in
theorem do_turn3 {w0 w : World} {S : Blocks} {L : List Rw} {t : Nat} {T : Tr} (hO : Own ⟨w0, S⟩ w L) (H : Tree S (Pc L) t T) (hm : Mx w) (p q : ByteArray) (hp : p.size ≤ maxLen) {va : Option Addr} {vn vc : Nat} (hvn : vn ≤ 3500)
    {j : Int} {nd : Nd} {k : Nat} {z : List UInt8} (hc : placeT T p.data.toList = (0, some (j, nd, z))) (ha : At T j nd k) {i : Int} {f : Nd} (hx : look nd.kids (toB z) = some i) (g : Fl T i f) {R : Tr → Prop} {c : Int}
    (hcall : ∀ S' w', Own ⟨w0, S'⟩ w' L → Tree S' (Pc L) t T → (∀ b x, (b, x) ∈ S → (b, x) ∈ S') → Mx w' → Calls Tryz.prog 97 #[.pointer (some ⟨t, 0, none⟩), .agg #[.pointer (some ⟨nd.b, 0, none⟩), .string (toB z)], .int .i64 i, .agg (opL 3 p q (.slice va vn vc)).toArray] w' (DoL w0 S' L t T w' R (.int .i64 c))) :
    Calls Tryz.prog 59 #[.pointer (some ⟨t, 0, none⟩), .agg (opL 3 p q (.slice va vn vc)).toArray] w (DoL w0 S L t T w R (.int .i64 c)) := by
  obtain ⟨w1, S2, hw1, hsz, hO2, H1, m1, hsub, hlt, hB1⟩ := one_box hO H (.cells #[.int .i64 3, .string p, .string q, .slice va vn vc] 40)
  have o0 : w1.cell? ⟨w.heap.size, 0, none⟩ = some (.int .i64 3) := by rw [hO2.cellB m1]; rfl
  have o1 : w1.cell? ⟨w.heap.size, 1, none⟩ = some (.string p) := by rw [hO2.cellB m1]; rfl
  have hpl := place_any (H1.at_.inWorld hO2) H.good p hp (hm.later hB1)
  rw [hc] at hpl
  have HO2 := Lib.hid hO2
  have hgen : ∀ w2, Own ⟨w0, S2⟩ w2 L → w.heap.size ≤ w2.heap.size → Mx w2 → (w2.alloc (boxP nd (toB z))).cell? ⟨w.heap.size, 3, none⟩ = some (.slice va vn vc) ∧
      ((w2.alloc (boxP nd (toB z))).drew.cell? ⟨w2.heap.size, 0, none⟩ = some (.pointer (some ⟨nd.b, 0, none⟩)) ∧ (w2.alloc (boxP nd (toB z))).drew.cell? ⟨w2.heap.size, 1, none⟩ = some (.string (toB z))) ∧
      ((w2.alloc (boxP nd (toB z))).drew.cell? ⟨w.heap.size, 0, none⟩ = some (.int .i64 3) ∧ (w2.alloc (boxP nd (toB z))).drew.cell? ⟨w.heap.size, 1, none⟩ = some (.string p) ∧ (w2.alloc (boxP nd (toB z))).drew.cell? ⟨w.heap.size, 2, none⟩ = some (.string q) ∧ (w2.alloc (boxP nd (toB z))).drew.cell? ⟨w.heap.size, 3, none⟩ = some (.slice va vn vc)) ∧
      (w2.alloc (boxP nd (toB z))).drew.cell? ⟨nd.b, 0, none⟩ = some (.map (some k)) ∧
      ((Instr.lookup 29 (.map (some k)) (.string (toB z)) true).run Tryz.prog (w2.alloc (boxP nd (toB z))).drew = .ok (.tuple #[.int .i64 i, .bool true]) (w2.alloc (boxP nd (toB z))).drew ∧ (w2.alloc (boxP nd (toB z))).drew.cell? ⟨t, 2, none⟩ = some (.map (some T.bm)) ∧ (Instr.lookup 80 (.map (some T.bm)) (.int .i64 i) false).run Tryz.prog (w2.alloc (boxP nd (toB z))).drew = .ok (.pointer (some ⟨f.b, 0, none⟩)) (w2.alloc (boxP nd (toB z))).drew ∧ Calls Tryz.prog 96 #[.pointer (some ⟨f.b, 0, none⟩)] (w2.alloc (boxP nd (toB z))).drew (fun e w' => e = .returned (.bool false) ∧ (w2.alloc (boxP nd (toB z))).drew = w')) ∧
      Calls Tryz.prog 97 #[.pointer (some ⟨t, 0, none⟩), .agg #[.pointer (some ⟨nd.b, 0, none⟩), .string (toB z)], .int .i64 i, .agg (opL 3 p q (.slice va vn vc)).toArray] (w2.alloc (boxP nd (toB z))).drew (fun e w' => e = .returned (.int .i64 c) ∧ DoL w0 S L t T w R (.int .i64 c) (.returned (.int .i64 c)) w') := by
    intro w2 h2 h3 hm2
    have h4 := h2.alloc (boxP nd (toB z))
    have h5 := h4.drew
    have b0 : (w2.alloc (boxP nd (toB z))).drew.cell? ⟨w2.heap.size, 0, none⟩ = some (.pointer (some ⟨nd.b, 0, none⟩)) := by show (w2.alloc _).cell? _ = _; rw [World.cell?_alloc_new]; rfl
    have b1 : (w2.alloc (boxP nd (toB z))).drew.cell? ⟨w2.heap.size, 1, none⟩ = some (.string (toB z)) := by show (w2.alloc _).cell? _ = _; rw [World.cell?_alloc_new]; rfl
    have hNW := (H1.at_.inWorld h5).node _ (look_mem ha.there)
    obtain ⟨c0, _, _⟩ := hNW.at0
    rw [ha.dir] at c0
    have hl := hNW.look ha.dir (toB z)
    rw [hx] at hl
    dsimp only [Option.getD_some, Option.isSome_some] at hl
    have hl2 := (H1.at_.inWorld h5).look i
    rw [g.there] at hl2
    dsimp only [ptrOf] at hl2
    have hdir := dir_any ((H1.at_.inWorld h5).node _ (look_mem g.there))
    rw [show f.k.isSome = false by rw [g.file]; rfl] at hdir
    refine ⟨by rw [h4.cellB m1]; rfl, ⟨b0, b1⟩, ⟨by rw [h5.cellB m1]; rfl, by rw [h5.cellB m1]; rfl, by rw [h5.cellB m1]; rfl, by rw [h5.cellB m1]; rfl⟩, c0, ⟨hl, (H1.at_.inWorld h5).at0.2.2, hl2, hdir⟩, (hcall S2 _ h5 H1 hsub (hm2.later (((Below.refl _ w2).alloc (Nat.le_refl _) _).drew))).mono fun e w' hd => ?_⟩
    obtain ⟨e1, hd2⟩ := hd.ret (.int .i64 c)
    subst e1
    exact ⟨rfl, hd2.more hsub (by show _ ≤ (w2.alloc _).heap.size; simp; omega) hlt⟩
  have hsz1 : w.heap.size ≤ w1.heap.size := by omega
  have hm1 := hm.later hB1
  rw [hw1] at o0 o1 hpl
  clear hO H hO2 H1 m1 hsub hlt hsz hc hm hB1 hcall ha hx g
  dsimp only [placeL] at hpl
  go_enter Tryz.func59, Tryz.ntmps59
  go_wp2_with fail
  refine hpl.mono ?_
  rintro e w2 ⟨rfl, hb⟩
  rw [← hw1] at hb
  have hO3 := HO2.out.later hb
  obtain ⟨x3, ⟨b0, b1⟩, ⟨y0, y1, y2, y3⟩, n0, ⟨hl, t2, hl2, hdir⟩, hcl⟩ := hgen w2 hO3 (Nat.le_trans hsz1 hb.size) (hm1.later hb)
  clear o0 o1 hpl hw1 hb hO3 hgen hsz1 HO2 hm1
  go_wp2_with fail
  go_region
  go_wp2_with (go_at_call 96; refine hdir.mono ?_; rintro e w' ⟨rfl, rfl⟩)
  refine hcl.mono ?_
  rintro e w3 ⟨rfl, hD⟩
  have HD := Lib.hid hD
  clear hD hcl
  go_wp2_with fail
  go_ret
  exact HD.out
set_option maxHeartbeats 4000000 in
theorem do_turn4 {w0 w : World} {S : Blocks} {L : List Rw} {t : Nat} {T : Tr} (hO : Own ⟨w0, S⟩ w L) (H : Tree S (Pc L) t T) (hm : Mx w) (p q : ByteArray) (hp : p.size ≤ maxLen) {va : Option Addr} {vn vc : Nat} (hvn : vn ≤ 3500)
    {j : Int} {nd : Nd} {k : Nat} {z : List UInt8} (hc : placeT T p.data.toList = (0, some (j, nd, z))) (ha : At T j nd k) {i : Int} {f : Nd} (hx : look nd.kids (toB z) = some i) (g : Fl T i f) {R : Tr → Prop} {c : Int}
    (hcall : ∀ S' w', Own ⟨w0, S'⟩ w' L → Tree S' (Pc L) t T → (∀ b x, (b, x) ∈ S → (b, x) ∈ S') → Mx w' → Calls Tryz.prog 97 #[.pointer (some ⟨t, 0, none⟩), .agg #[.pointer (some ⟨nd.b, 0, none⟩), .string (toB z)], .int .i64 i, .agg (opL 4 p q (.slice va vn vc)).toArray] w' (DoL w0 S' L t T w' R (.int .i64 c))) :
    Calls Tryz.prog 59 #[.pointer (some ⟨t, 0, none⟩), .agg (opL 4 p q (.slice va vn vc)).toArray] w (DoL w0 S L t T w R (.int .i64 c)) := by
  obtain ⟨w1, S2, hw1, hsz, hO2, H1, m1, hsub, hlt, hB1⟩ := one_box hO H (.cells #[.int .i64 4, .string p, .string q, .slice va vn vc] 40)
  have o0 : w1.cell? ⟨w.heap.size, 0, none⟩ = some (.int .i64 4) := by rw [hO2.cellB m1]; rfl
  have o1 : w1.cell? ⟨w.heap.size, 1, none⟩ = some (.string p) := by rw [hO2.cellB m1]; rfl
  have hpl := place_any (H1.at_.inWorld hO2) H.good p hp (hm.later hB1)
  rw [hc] at hpl
  have HO2 := Lib.hid hO2
  have hgen : ∀ w2, Own ⟨w0, S2⟩ w2 L → w.heap.size ≤ w2.heap.size → Mx w2 → (w2.alloc (boxP nd (toB z))).cell? ⟨w.heap.size, 3, none⟩ = some (.slice va vn vc) ∧
      ((w2.alloc (boxP nd (toB z))).drew.cell? ⟨w2.heap.size, 0, none⟩ = some (.pointer (some ⟨nd.b, 0, none⟩)) ∧ (w2.alloc (boxP nd (toB z))).drew.cell? ⟨w2.heap.size, 1, none⟩ = some (.string (toB z))) ∧
      ((w2.alloc (boxP nd (toB z))).drew.cell? ⟨w.heap.size, 0, none⟩ = some (.int .i64 4) ∧ (w2.alloc (boxP nd (toB z))).drew.cell? ⟨w.heap.size, 1, none⟩ = some (.string p) ∧ (w2.alloc (boxP nd (toB z))).drew.cell? ⟨w.heap.size, 2, none⟩ = some (.string q) ∧ (w2.alloc (boxP nd (toB z))).drew.cell? ⟨w.heap.size, 3, none⟩ = some (.slice va vn vc)) ∧
      (w2.alloc (boxP nd (toB z))).drew.cell? ⟨nd.b, 0, none⟩ = some (.map (some k)) ∧
      ((Instr.lookup 29 (.map (some k)) (.string (toB z)) true).run Tryz.prog (w2.alloc (boxP nd (toB z))).drew = .ok (.tuple #[.int .i64 i, .bool true]) (w2.alloc (boxP nd (toB z))).drew ∧ (w2.alloc (boxP nd (toB z))).drew.cell? ⟨t, 2, none⟩ = some (.map (some T.bm)) ∧ (Instr.lookup 80 (.map (some T.bm)) (.int .i64 i) false).run Tryz.prog (w2.alloc (boxP nd (toB z))).drew = .ok (.pointer (some ⟨f.b, 0, none⟩)) (w2.alloc (boxP nd (toB z))).drew ∧ Calls Tryz.prog 96 #[.pointer (some ⟨f.b, 0, none⟩)] (w2.alloc (boxP nd (toB z))).drew (fun e w' => e = .returned (.bool false) ∧ (w2.alloc (boxP nd (toB z))).drew = w')) ∧
      Calls Tryz.prog 97 #[.pointer (some ⟨t, 0, none⟩), .agg #[.pointer (some ⟨nd.b, 0, none⟩), .string (toB z)], .int .i64 i, .agg (opL 4 p q (.slice va vn vc)).toArray] (w2.alloc (boxP nd (toB z))).drew (fun e w' => e = .returned (.int .i64 c) ∧ DoL w0 S L t T w R (.int .i64 c) (.returned (.int .i64 c)) w') := by
    intro w2 h2 h3 hm2
    have h4 := h2.alloc (boxP nd (toB z))
    have h5 := h4.drew
    have b0 : (w2.alloc (boxP nd (toB z))).drew.cell? ⟨w2.heap.size, 0, none⟩ = some (.pointer (some ⟨nd.b, 0, none⟩)) := by show (w2.alloc _).cell? _ = _; rw [World.cell?_alloc_new]; rfl
    have b1 : (w2.alloc (boxP nd (toB z))).drew.cell? ⟨w2.heap.size, 1, none⟩ = some (.string (toB z)) := by show (w2.alloc _).cell? _ = _; rw [World.cell?_alloc_new]; rfl
    have hNW := (H1.at_.inWorld h5).node _ (look_mem ha.there)
    obtain ⟨c0, _, _⟩ := hNW.at0
    rw [ha.dir] at c0
    have hl := hNW.look ha.dir (toB z)
    rw [hx] at hl
    dsimp only [Option.getD_some, Option.isSome_some] at hl
    have hl2 := (H1.at_.inWorld h5).look i
    rw [g.there] at hl2
    dsimp only [ptrOf] at hl2
    have hdir := dir_any ((H1.at_.inWorld h5).node _ (look_mem g.there))
    rw [show f.k.isSome = false by rw [g.file]; rfl] at hdir
    refine ⟨by rw [h4.cellB m1]; rfl, ⟨b0, b1⟩, ⟨by rw [h5.cellB m1]; rfl, by rw [h5.cellB m1]; rfl, by rw [h5.cellB m1]; rfl, by rw [h5.cellB m1]; rfl⟩, c0, ⟨hl, (H1.at_.inWorld h5).at0.2.2, hl2, hdir⟩, (hcall S2 _ h5 H1 hsub (hm2.later (((Below.refl _ w2).alloc (Nat.le_refl _) _).drew))).mono fun e w' hd => ?_⟩
    obtain ⟨e1, hd2⟩ := hd.ret (.int .i64 c)
    subst e1
    exact ⟨rfl, hd2.more hsub (by show _ ≤ (w2.alloc _).heap.size; simp; omega) hlt⟩
  have hsz1 : w.heap.size ≤ w1.heap.size := by omega
  have hm1 := hm.later hB1
  rw [hw1] at o0 o1 hpl
  clear hO H hO2 H1 m1 hsub hlt hsz hc hm hB1 hcall ha hx g
  dsimp only [placeL] at hpl
  go_enter Tryz.func59, Tryz.ntmps59
  go_wp2_with fail
  refine hpl.mono ?_
  rintro e w2 ⟨rfl, hb⟩
  rw [← hw1] at hb
  have hO3 := HO2.out.later hb
  obtain ⟨x3, ⟨b0, b1⟩, ⟨y0, y1, y2, y3⟩, n0, ⟨hl, t2, hl2, hdir⟩, hcl⟩ := hgen w2 hO3 (Nat.le_trans hsz1 hb.size) (hm1.later hb)
  clear o0 o1 hpl hw1 hb hO3 hgen hsz1 HO2 hm1
  go_wp2_with fail
  go_region
  go_wp2_with (go_at_call 96; refine hdir.mono ?_; rintro e w' ⟨rfl, rfl⟩)
  refine hcl.mono ?_
  rintro e w3 ⟨rfl, hD⟩
  have HD := Lib.hid hD
  clear hD hcl
  go_wp2_with fail
  go_ret
  exact HD.out
set_option maxHeartbeats 4000000 in
theorem do_turn5 {w0 w : World} {S : Blocks} {L : List Rw} {t : Nat} {T : Tr} (hO : Own ⟨w0, S⟩ w L) (H : Tree S (Pc L) t T) (hm : Mx w) (p q : ByteArray) (hp : p.size ≤ maxLen) {va : Option Addr} {vn vc : Nat} (hvn : vn ≤ 3500)
    {j : Int} {nd : Nd} {k : Nat} {z : List UInt8} (hc : placeT T p.data.toList = (0, some (j, nd, z))) (ha : At T j nd k) {i : Int} {f : Nd} (hx : look nd.kids (toB z) = some i) (g : Fl T i f) {R : Tr → Prop} {c : Int}
    (hcall : ∀ S' w', Own ⟨w0, S'⟩ w' L → Tree S' (Pc L) t T → (∀ b x, (b, x) ∈ S → (b, x) ∈ S') → Mx w' → Calls Tryz.prog 97 #[.pointer (some ⟨t, 0, none⟩), .agg #[.pointer (some ⟨nd.b, 0, none⟩), .string (toB z)], .int .i64 i, .agg (opL 5 p q (.slice va vn vc)).toArray] w' (DoL w0 S' L t T w' R (.int .i64 c))) :
    Calls Tryz.prog 59 #[.pointer (some ⟨t, 0, none⟩), .agg (opL 5 p q (.slice va vn vc)).toArray] w (DoL w0 S L t T w R (.int .i64 c)) := by
  obtain ⟨w1, S2, hw1, hsz, hO2, H1, m1, hsub, hlt, hB1⟩ := one_box hO H (.cells #[.int .i64 5, .string p, .string q, .slice va vn vc] 40)
  have o0 : w1.cell? ⟨w.heap.size, 0, none⟩ = some (.int .i64 5) := by rw [hO2.cellB m1]; rfl
  have o1 : w1.cell? ⟨w.heap.size, 1, none⟩ = some (.string p) := by rw [hO2.cellB m1]; rfl
  have hpl := place_any (H1.at_.inWorld hO2) H.good p hp (hm.later hB1)
  rw [hc] at hpl
  have HO2 := Lib.hid hO2
  have hgen : ∀ w2, Own ⟨w0, S2⟩ w2 L → w.heap.size ≤ w2.heap.size → Mx w2 → (w2.alloc (boxP nd (toB z))).cell? ⟨w.heap.size, 3, none⟩ = some (.slice va vn vc) ∧
      ((w2.alloc (boxP nd (toB z))).drew.cell? ⟨w2.heap.size, 0, none⟩ = some (.pointer (some ⟨nd.b, 0, none⟩)) ∧ (w2.alloc (boxP nd (toB z))).drew.cell? ⟨w2.heap.size, 1, none⟩ = some (.string (toB z))) ∧
      ((w2.alloc (boxP nd (toB z))).drew.cell? ⟨w.heap.size, 0, none⟩ = some (.int .i64 5) ∧ (w2.alloc (boxP nd (toB z))).drew.cell? ⟨w.heap.size, 1, none⟩ = some (.string p) ∧ (w2.alloc (boxP nd (toB z))).drew.cell? ⟨w.heap.size, 2, none⟩ = some (.string q) ∧ (w2.alloc (boxP nd (toB z))).drew.cell? ⟨w.heap.size, 3, none⟩ = some (.slice va vn vc)) ∧
      (w2.alloc (boxP nd (toB z))).drew.cell? ⟨nd.b, 0, none⟩ = some (.map (some k)) ∧
      ((Instr.lookup 29 (.map (some k)) (.string (toB z)) true).run Tryz.prog (w2.alloc (boxP nd (toB z))).drew = .ok (.tuple #[.int .i64 i, .bool true]) (w2.alloc (boxP nd (toB z))).drew ∧ (w2.alloc (boxP nd (toB z))).drew.cell? ⟨t, 2, none⟩ = some (.map (some T.bm)) ∧ (Instr.lookup 80 (.map (some T.bm)) (.int .i64 i) false).run Tryz.prog (w2.alloc (boxP nd (toB z))).drew = .ok (.pointer (some ⟨f.b, 0, none⟩)) (w2.alloc (boxP nd (toB z))).drew ∧ Calls Tryz.prog 96 #[.pointer (some ⟨f.b, 0, none⟩)] (w2.alloc (boxP nd (toB z))).drew (fun e w' => e = .returned (.bool false) ∧ (w2.alloc (boxP nd (toB z))).drew = w')) ∧
      Calls Tryz.prog 97 #[.pointer (some ⟨t, 0, none⟩), .agg #[.pointer (some ⟨nd.b, 0, none⟩), .string (toB z)], .int .i64 i, .agg (opL 5 p q (.slice va vn vc)).toArray] (w2.alloc (boxP nd (toB z))).drew (fun e w' => e = .returned (.int .i64 c) ∧ DoL w0 S L t T w R (.int .i64 c) (.returned (.int .i64 c)) w') := by
    intro w2 h2 h3 hm2
    have h4 := h2.alloc (boxP nd (toB z))
    have h5 := h4.drew
    have b0 : (w2.alloc (boxP nd (toB z))).drew.cell? ⟨w2.heap.size, 0, none⟩ = some (.pointer (some ⟨nd.b, 0, none⟩)) := by show (w2.alloc _).cell? _ = _; rw [World.cell?_alloc_new]; rfl
    have b1 : (w2.alloc (boxP nd (toB z))).drew.cell? ⟨w2.heap.size, 1, none⟩ = some (.string (toB z)) := by show (w2.alloc _).cell? _ = _; rw [World.cell?_alloc_new]; rfl
    have hNW := (H1.at_.inWorld h5).node _ (look_mem ha.there)
    obtain ⟨c0, _, _⟩ := hNW.at0
    rw [ha.dir] at c0
    have hl := hNW.look ha.dir (toB z)
    rw [hx] at hl
    dsimp only [Option.getD_some, Option.isSome_some] at hl
    have hl2 := (H1.at_.inWorld h5).look i
    rw [g.there] at hl2
    dsimp only [ptrOf] at hl2
    have hdir := dir_any ((H1.at_.inWorld h5).node _ (look_mem g.there))
    rw [show f.k.isSome = false by rw [g.file]; rfl] at hdir
    refine ⟨by rw [h4.cellB m1]; rfl, ⟨b0, b1⟩, ⟨by rw [h5.cellB m1]; rfl, by rw [h5.cellB m1]; rfl, by rw [h5.cellB m1]; rfl, by rw [h5.cellB m1]; rfl⟩, c0, ⟨hl, (H1.at_.inWorld h5).at0.2.2, hl2, hdir⟩, (hcall S2 _ h5 H1 hsub (hm2.later (((Below.refl _ w2).alloc (Nat.le_refl _) _).drew))).mono fun e w' hd => ?_⟩
    obtain ⟨e1, hd2⟩ := hd.ret (.int .i64 c)
    subst e1
    exact ⟨rfl, hd2.more hsub (by show _ ≤ (w2.alloc _).heap.size; simp; omega) hlt⟩
  have hsz1 : w.heap.size ≤ w1.heap.size := by omega
  have hm1 := hm.later hB1
  rw [hw1] at o0 o1 hpl
  clear hO H hO2 H1 m1 hsub hlt hsz hc hm hB1 hcall ha hx g
  dsimp only [placeL] at hpl
  go_enter Tryz.func59, Tryz.ntmps59
  go_wp2_with fail
  refine hpl.mono ?_
  rintro e w2 ⟨rfl, hb⟩
  rw [← hw1] at hb
  have hO3 := HO2.out.later hb
  obtain ⟨x3, ⟨b0, b1⟩, ⟨y0, y1, y2, y3⟩, n0, ⟨hl, t2, hl2, hdir⟩, hcl⟩ := hgen w2 hO3 (Nat.le_trans hsz1 hb.size) (hm1.later hb)
  clear o0 o1 hpl hw1 hb hO3 hgen hsz1 HO2 hm1
  go_wp2_with fail
  go_region
  go_wp2_with (go_at_call 96; refine hdir.mono ?_; rintro e w' ⟨rfl, rfl⟩)
  refine hcl.mono ?_
  rintro e w3 ⟨rfl, hD⟩
  have HD := Lib.hid hD
  clear hD hcl
  go_wp2_with fail
  go_ret
  exact HD.out
set_option maxHeartbeats 4000000 in
theorem do_turn6 {w0 w : World} {S : Blocks} {L : List Rw} {t : Nat} {T : Tr} (hO : Own ⟨w0, S⟩ w L) (H : Tree S (Pc L) t T) (hm : Mx w) (p q : ByteArray) (hp : p.size ≤ maxLen) {va : Option Addr} {vn vc : Nat} (hvn : vn ≤ 3500)
    {j : Int} {nd : Nd} {k : Nat} {z : List UInt8} (hc : placeT T p.data.toList = (0, some (j, nd, z))) (ha : At T j nd k) {i : Int} {f : Nd} (hx : look nd.kids (toB z) = some i) (g : Fl T i f) {R : Tr → Prop} {c : Int}
    (hcall : ∀ S' w', Own ⟨w0, S'⟩ w' L → Tree S' (Pc L) t T → (∀ b x, (b, x) ∈ S → (b, x) ∈ S') → Mx w' → Calls Tryz.prog 97 #[.pointer (some ⟨t, 0, none⟩), .agg #[.pointer (some ⟨nd.b, 0, none⟩), .string (toB z)], .int .i64 i, .agg (opL 6 p q (.slice va vn vc)).toArray] w' (DoL w0 S' L t T w' R (.int .i64 c))) :
    Calls Tryz.prog 59 #[.pointer (some ⟨t, 0, none⟩), .agg (opL 6 p q (.slice va vn vc)).toArray] w (DoL w0 S L t T w R (.int .i64 c)) := by
  obtain ⟨w1, S2, hw1, hsz, hO2, H1, m1, hsub, hlt, hB1⟩ := one_box hO H (.cells #[.int .i64 6, .string p, .string q, .slice va vn vc] 40)
  have o0 : w1.cell? ⟨w.heap.size, 0, none⟩ = some (.int .i64 6) := by rw [hO2.cellB m1]; rfl
  have o1 : w1.cell? ⟨w.heap.size, 1, none⟩ = some (.string p) := by rw [hO2.cellB m1]; rfl
  have hpl := place_any (H1.at_.inWorld hO2) H.good p hp (hm.later hB1)
  rw [hc] at hpl
  have HO2 := Lib.hid hO2
  have hgen : ∀ w2, Own ⟨w0, S2⟩ w2 L → w.heap.size ≤ w2.heap.size → Mx w2 → (w2.alloc (boxP nd (toB z))).cell? ⟨w.heap.size, 3, none⟩ = some (.slice va vn vc) ∧
      ((w2.alloc (boxP nd (toB z))).drew.cell? ⟨w2.heap.size, 0, none⟩ = some (.pointer (some ⟨nd.b, 0, none⟩)) ∧ (w2.alloc (boxP nd (toB z))).drew.cell? ⟨w2.heap.size, 1, none⟩ = some (.string (toB z))) ∧
      ((w2.alloc (boxP nd (toB z))).drew.cell? ⟨w.heap.size, 0, none⟩ = some (.int .i64 6) ∧ (w2.alloc (boxP nd (toB z))).drew.cell? ⟨w.heap.size, 1, none⟩ = some (.string p) ∧ (w2.alloc (boxP nd (toB z))).drew.cell? ⟨w.heap.size, 2, none⟩ = some (.string q) ∧ (w2.alloc (boxP nd (toB z))).drew.cell? ⟨w.heap.size, 3, none⟩ = some (.slice va vn vc)) ∧
      (w2.alloc (boxP nd (toB z))).drew.cell? ⟨nd.b, 0, none⟩ = some (.map (some k)) ∧
      ((Instr.lookup 29 (.map (some k)) (.string (toB z)) true).run Tryz.prog (w2.alloc (boxP nd (toB z))).drew = .ok (.tuple #[.int .i64 i, .bool true]) (w2.alloc (boxP nd (toB z))).drew ∧ (w2.alloc (boxP nd (toB z))).drew.cell? ⟨t, 2, none⟩ = some (.map (some T.bm)) ∧ (Instr.lookup 80 (.map (some T.bm)) (.int .i64 i) false).run Tryz.prog (w2.alloc (boxP nd (toB z))).drew = .ok (.pointer (some ⟨f.b, 0, none⟩)) (w2.alloc (boxP nd (toB z))).drew ∧ Calls Tryz.prog 96 #[.pointer (some ⟨f.b, 0, none⟩)] (w2.alloc (boxP nd (toB z))).drew (fun e w' => e = .returned (.bool false) ∧ (w2.alloc (boxP nd (toB z))).drew = w')) ∧
      Calls Tryz.prog 97 #[.pointer (some ⟨t, 0, none⟩), .agg #[.pointer (some ⟨nd.b, 0, none⟩), .string (toB z)], .int .i64 i, .agg (opL 6 p q (.slice va vn vc)).toArray] (w2.alloc (boxP nd (toB z))).drew (fun e w' => e = .returned (.int .i64 c) ∧ DoL w0 S L t T w R (.int .i64 c) (.returned (.int .i64 c)) w') := by
    intro w2 h2 h3 hm2
    have h4 := h2.alloc (boxP nd (toB z))
    have h5 := h4.drew
    have b0 : (w2.alloc (boxP nd (toB z))).drew.cell? ⟨w2.heap.size, 0, none⟩ = some (.pointer (some ⟨nd.b, 0, none⟩)) := by show (w2.alloc _).cell? _ = _; rw [World.cell?_alloc_new]; rfl
    have b1 : (w2.alloc (boxP nd (toB z))).drew.cell? ⟨w2.heap.size, 1, none⟩ = some (.string (toB z)) := by show (w2.alloc _).cell? _ = _; rw [World.cell?_alloc_new]; rfl
    have hNW := (H1.at_.inWorld h5).node _ (look_mem ha.there)
    obtain ⟨c0, _, _⟩ := hNW.at0
    rw [ha.dir] at c0
    have hl := hNW.look ha.dir (toB z)
    rw [hx] at hl
    dsimp only [Option.getD_some, Option.isSome_some] at hl
    have hl2 := (H1.at_.inWorld h5).look i
    rw [g.there] at hl2
    dsimp only [ptrOf] at hl2
    have hdir := dir_any ((H1.at_.inWorld h5).node _ (look_mem g.there))
    rw [show f.k.isSome = false by rw [g.file]; rfl] at hdir
    refine ⟨by rw [h4.cellB m1]; rfl, ⟨b0, b1⟩, ⟨by rw [h5.cellB m1]; rfl, by rw [h5.cellB m1]; rfl, by rw [h5.cellB m1]; rfl, by rw [h5.cellB m1]; rfl⟩, c0, ⟨hl, (H1.at_.inWorld h5).at0.2.2, hl2, hdir⟩, (hcall S2 _ h5 H1 hsub (hm2.later (((Below.refl _ w2).alloc (Nat.le_refl _) _).drew))).mono fun e w' hd => ?_⟩
    obtain ⟨e1, hd2⟩ := hd.ret (.int .i64 c)
    subst e1
    exact ⟨rfl, hd2.more hsub (by show _ ≤ (w2.alloc _).heap.size; simp; omega) hlt⟩
  have hsz1 : w.heap.size ≤ w1.heap.size := by omega
  have hm1 := hm.later hB1
  rw [hw1] at o0 o1 hpl
  clear hO H hO2 H1 m1 hsub hlt hsz hc hm hB1 hcall ha hx g
  dsimp only [placeL] at hpl
  go_enter Tryz.func59, Tryz.ntmps59
  go_wp2_with fail
  refine hpl.mono ?_
  rintro e w2 ⟨rfl, hb⟩
  rw [← hw1] at hb
  have hO3 := HO2.out.later hb
  obtain ⟨x3, ⟨b0, b1⟩, ⟨y0, y1, y2, y3⟩, n0, ⟨hl, t2, hl2, hdir⟩, hcl⟩ := hgen w2 hO3 (Nat.le_trans hsz1 hb.size) (hm1.later hb)
  clear o0 o1 hpl hw1 hb hO3 hgen hsz1 HO2 hm1
  go_wp2_with fail
  go_region
  go_wp2_with (go_at_call 96; refine hdir.mono ?_; rintro e w' ⟨rfl, rfl⟩)
  refine hcl.mono ?_
  rintro e w3 ⟨rfl, hD⟩
  have HD := Lib.hid hD
  clear hD hcl
  go_wp2_with fail
  go_ret
  exact HD.out
end Go.Proofs.YtkhnkidggcjfeaaGreatDoor
end
section
namespace Go.Proofs.YtkhnkidggcjfeaaGreatDoor
open Go.RowKit
open Go.ChangeMaps (setBlock)
set_option maxHeartbeats 1000000 in
theorem over_ok {w : World} {D : Value → List Int → Prop} {t : Nat} {T : Tr} (H : TreeIn (inW w) D t T) (hu : sumT T.nodes ≤ 1000000000) (h1 : T.nodes.length ≤ 128) (h2 : (sumT T.nodes : Int) ≤ T.quota) :
    Calls Tryz.prog 60 #[.pointer (some ⟨t, 0, none⟩)] w fun e w' => e = .returned (.int .i64 0) ∧ Below w.heap.size w w' := by
  have hn := nodes_any H
  have hus := used_any (w := w.drew) (H.later (Below.refl _ w).drew) hu
  have c0 := H.at0.1
  have hS : ∀ w', Below w.heap.size w.drew w' → w'.cell? ⟨t, 0, none⟩ = some (.int .i64 T.quota) := fun w' hb => (H.later ((Below.refl _ w).drew.trans hb)).at0.1
  have b1 : ¬ (128 < (T.nodes.length : Int)) := by omega
  have b2 : ¬ (T.quota < (sumT T.nodes : Int)) := by omega
  clear H hu h1 h2
  generalize sumT T.nodes = s at *
  generalize T.nodes.length = m at *
  generalize T.quota = qq at *
  go_enter Tryz.func60, Tryz.ntmps60
  go_wp2_with (go_at_call 98; refine hn.mono ?_; rintro e w' ⟨rfl, rfl⟩)
  go_region_held3 (fun w' : World => w'.cell? ⟨t, 0, none⟩ = some (.int .i64 qq)) (first | exact c0 | exact hS _ (Below.refl _ _) | exact hS _ hb3) (first | (go_at_call 99; refine hus.mono ?_; rintro e w3 ⟨rfl, hb3⟩))
  all_goals go_wp2_with fail
  all_goals go_ret
  all_goals exact ⟨rfl, (Below.refl _ w).drew.trans hb3⟩
end Go.Proofs.YtkhnkidggcjfeaaGreatDoor
end
section
namespace Go.Proofs.YtkhnkidggcjfeaaGreatDoor
open Go.RowKit
open Go.ChangeMaps (setBlock)
structure OpD where
  kind : Int
  p : ByteArray
  q : ByteArray
  a : Option Addr
  n : Nat
  c : Nat
abbrev OpD.cells (o : OpD) : List Value := opL o.kind o.p o.q (.slice o.a o.n o.c)
theorem info_op (o : OpD) : (Tryz.prog.info? 40).map (·.size) = some o.cells.length := by
  have : (Tryz.prog.info? 40).map (·.size) = some 4 := by kernel_rfl
  exact this
theorem op_one (o : OpD) : ∀ v ∈ o.cells, v.oneCell' = true := by
  intro v hv
  simp only [OpD.cells, opL, List.mem_cons, List.not_mem_nil, or_false] at hv
  rcases hv with rfl | rfl | rfl | rfl <;> rfl
def DoRel (w0 : World) (S : Blocks) (L : List Rw) (w : World) (c : Nat) (P : Nat → Tr → Prop) (i : Nat) (wr : World) : Prop :=
  ∃ S' L' T', Own ⟨w0, S'⟩ wr L' ∧ (∀ x ∈ L, x ∈ L') ∧ Tree S' (Pc L') c T' ∧ (∀ b x, (b, x) ∈ S → (b, x) ∈ S') ∧ (∀ b ∈ c :: T'.foot, w.heap.size ≤ b) ∧ P i T' ∧ Mx wr ∧ w.heap.size ≤ wr.heap.size
theorem DoRel.step {w0 w wr w' : World} {S S2 : Blocks} {L L2 : List Rw} {c i : Nat} {T2 : Tr} {P : Nat → Tr → Prop} {r : Value} {e : Ending} (hd : DoL w0 S2 L2 c T2 wr (P (i + 1)) r e w') (hL : ∀ x ∈ L, x ∈ L2) (hs : ∀ b x, (b, x) ∈ S → (b, x) ∈ S2) (hh : ∀ b ∈ c :: T2.foot, w.heap.size ≤ b) (hlt : ∀ b x, (b, x) ∈ S → b < w.heap.size) (hw : w.heap.size ≤ wr.heap.size) (hmx : ∀ S' L' w', Own ⟨w0, S'⟩ w' L' → Mx w') :
    e = .returned r ∧ DoRel w0 S L w c P (i + 1) w' := by
  obtain ⟨S', L', T', h1, h2, h3, h4, h5, h6⟩ := hd
  have hcw := (h2.atLt h4.at_.cells).2
  have hcl := hh c (List.mem_cons_self ..)
  refine ⟨h1, S', L', T', h2, fun x hx => h3 x (hL x hx), h4, fun b x hb => h5.kept b x (hs b x hb) fun hb2 => ?_, fun b hb => ?_, h6, hmx _ _ _ h2, by omega⟩
  · have := hlt b x hb
    have := hh b hb2
    omega
  · rcases h5.fresh b hb with h | h
    · exact hh b h
    · omega
theorem Tree.moved {S' : Blocks} {D : Value → List Int → Prop} {c t : Nat} {T T' : Tr} (H : Tree S' D c T') (ht : (t, Obj.cells (treeCells T) 82) ∈ S') (hn : t ∉ T'.foot) : Tree (upd S' t (.cells (treeCells T') 82)) D t T' := by
  have hne : ∀ b ∈ T'.foot, b ≠ t := fun b hb e => hn (e ▸ hb)
  obtain ⟨o, h1, h2⟩ := H.at_.map
  refine ⟨⟨upd_same ht _, ⟨o, upd_other h1 (hne _ (List.mem_cons_self ..)) _, h2⟩, fun p hp => (H.at_.node p hp).mono (fun b x hb hx => upd_other hx (hne b (foot_mem hp hb)) _) (fun _ _ h => h)⟩, List.nodup_cons.2 ⟨hn, (List.nodup_cons.1 H.apart).2⟩, H.good⟩
theorem upd_upd (S : Blocks) (b : Nat) (o o' : Obj) : upd (upd S b o) b o' = upd S b o' := by
  unfold upd
  rw [List.map_map]
  apply List.map_congr_left
  intro m _
  simp only [Function.comp]
  by_cases h : m.1 = b
  · rw [if_pos h, if_pos rfl, if_pos h]
  · rw [if_neg h, if_neg h]
theorem store3 {w0 w5 : World} {S2 : Blocks} {L2 : List Rw} {t : Nat} {T T2 : Tr} (h5 : Own ⟨w0, S2⟩ w5 L2) (ht : (t, Obj.cells (treeCells T) 82) ∈ S2) :
    Own ⟨w0, upd S2 t (.cells (treeCells T2) 82)⟩ (((w5.setCell ⟨t, 0, none⟩ (.int .i64 T2.quota)).setCell ⟨t, 1, none⟩ (.int .i64 T2.next)).setCell ⟨t, 2, none⟩ (.map (some T2.bm))) L2 := by
  have h := ((h5.storeB ht 0 (.int .i64 T2.quota)).storeB (upd_same ht _) 1 (.int .i64 T2.next)).storeB (upd_same (upd_same ht _) _) 2 (.map (some T2.bm))
  rw [upd_upd, upd_upd] at h
  exact h
end Go.Proofs.YtkhnkidggcjfeaaGreatDoor
end
section
namespace Go.Proofs.YtkhnkidggcjfeaaGreatDoor
open Go.RowKit
structure OpB where
  κ : Int
  p : List Int
  q : List Int
  d : List Int
def packB (o : OpB) : List Int := le4 o.κ ++ sizedL o.p ++ sizedL o.q ++ sizedL o.d
def packsB (l : List OpB) : List Int := (l.map packB).flatten
abbrev UState := List OpB × List Int × Bool
def stepU (s : UState) : UState :=
  (s.1 ++ [⟨(numP 6 s.2.1 s.2.2).1, (bodP 40 (numP 6 s.2.1 s.2.2).2.1 (numP 6 s.2.1 s.2.2).2.2).1,
    (bodP 40 (bodP 40 (numP 6 s.2.1 s.2.2).2.1 (numP 6 s.2.1 s.2.2).2.2).2.1 (bodP 40 (numP 6 s.2.1 s.2.2).2.1 (numP 6 s.2.1 s.2.2).2.2).2.2).1,
    (bodP 3500 (bodP 40 (bodP 40 (numP 6 s.2.1 s.2.2).2.1 (numP 6 s.2.1 s.2.2).2.2).2.1 (bodP 40 (numP 6 s.2.1 s.2.2).2.1 (numP 6 s.2.1 s.2.2).2.2).2.2).2.1
      (bodP 40 (bodP 40 (numP 6 s.2.1 s.2.2).2.1 (numP 6 s.2.1 s.2.2).2.2).2.1 (bodP 40 (numP 6 s.2.1 s.2.2).2.1 (numP 6 s.2.1 s.2.2).2.2).2.2).2.2).1⟩],
   (bodP 3500 (bodP 40 (bodP 40 (numP 6 s.2.1 s.2.2).2.1 (numP 6 s.2.1 s.2.2).2.2).2.1 (bodP 40 (numP 6 s.2.1 s.2.2).2.1 (numP 6 s.2.1 s.2.2).2.2).2.2).2.1
      (bodP 40 (bodP 40 (numP 6 s.2.1 s.2.2).2.1 (numP 6 s.2.1 s.2.2).2.2).2.1 (bodP 40 (numP 6 s.2.1 s.2.2).2.1 (numP 6 s.2.1 s.2.2).2.2).2.2).2.2).2)
structure OkB (o : OpB) : Prop where
  κ : 0 ≤ o.κ ∧ o.κ ≤ 6
  p : Byts o.p ∧ o.p.length ≤ 40
  q : Byts o.q ∧ o.q.length ≤ 40
  d : Byts o.d ∧ o.d.length ≤ 3500
inductive RunU (s0 : UState) : UState → Prop
  | start : RunU s0 s0
  | step {s : UState} : RunU s0 s → 0 < s.2.1.length → RunU s0 (stepU s)
structure OpOf (L : List Rw) (o : OpD) (x : OpB) : Prop where
  kind : o.kind = x.κ
  p : o.p = strOfNums x.p
  q : o.q = strOfNums x.q
  n : o.n = x.d.length
  data : Pc L (.slice o.a o.n o.c) x.d
def rowO (v : Value) (ds : List OpD) : Rw := ⟨40, 4, v, ds.length, (ds.map OpD.cells).flatten⟩
theorem info_op3 : ∃ i, Tryz.prog.info? 40 = some i ∧ i.zero = some (.agg #[.int .i64 0, .string ⟨#[]⟩, .string ⟨#[]⟩, .slice none 0 0]) ∧ i.size = 4 ∧ i.bytes = 64 := by
  have h : (Tryz.prog.info? 40).map (fun i => (i.zero, i.size, i.bytes)) = some (some (.agg #[.int .i64 0, .string ⟨#[]⟩, .string ⟨#[]⟩, .slice none 0 0]), 4, 64) := by kernel_rfl
  cases hi : Tryz.prog.info? 40 with
  | none => rw [hi] at h; cases h
  | some i =>
    rw [hi] at h
    injection h with h
    injection h with h1 h2
    injection h2 with h2 h3
    exact ⟨i, rfl, h1, h2, h3⟩
abbrev zOp : Value := .agg #[.int .i64 0, .string ⟨#[]⟩, .string ⟨#[]⟩, .slice none 0 0]
theorem zOp_size : zOp.cells.size = 4 := rfl
theorem lit_src (w : World) (cs : List Value) (T : TypeId) (h1 : ∀ u ∈ cs, u.oneCell' = true) (H : Nat) (hH : H = w.heap.size) : Src (w.alloc (.cells cs.toArray T)) (.slice (some ⟨H, 0, none⟩) 1 1) 1 cs := by
  subst hH
  refine .inr ⟨_, _, rfl, fun j u hj => ?_, h1⟩
  rw [Addr.add_mid, Nat.zero_add, World.cell?_alloc_new]
  simpa using hj
def UnRel (W0 : Base) (L : List Rw) (r : Nat) (zs : List Int) (v : Value) (wr : World) : Prop :=
  ∃ (s : UState) (os : List (OpD × OpB)) (L1 : List Rw), RunU ([], zs, false) s ∧ Rd W0 wr (rowO v (os.map (·.1)) :: (L1 ++ L)) r s.2.1 s.2.2 ∧ os.map (·.2) = s.1 ∧ (∀ x ∈ os, OpOf (L1 ++ L) x.1 x.2) ∧ os.length + s.2.1.length ≤ zs.length
def leftU (W0 : Base) (L : List Rw) (r : Nat) (w : World) : Nat := match w.cell? ⟨r, 0, none⟩ with
  | some (.slice _ n _) => n
  | _ => 0
end Go.Proofs.YtkhnkidggcjfeaaGreatDoor
end
section
namespace Go.Proofs.YtkhnkidggcjfeaaGreatDoor
open Go.RowKit
def UnpackAt (W0 : Base) (L : List Rw) (zs : List Int) (e : Ending) (w' : World) : Prop :=
  ∃ s : UState, RunU ([], zs, false) s ∧ s.2.1 = [] ∧ ∃ (v : Value) (os : List (OpD × OpB)) (L1 : List Rw), Own W0 w' (rowO v (os.map (·.1)) :: (L1 ++ L)) ∧ os.map (·.2) = s.1 ∧ (∀ x ∈ os, OpOf (L1 ++ L) x.1 x.2) ∧ os.length ≤ zs.length ∧
    (∃ a c, v = .slice a os.length c) ∧ e = .returned (if s.2.2 = false then .tuple #[v, .int .i64 0] else .tuple #[.slice none 0 0, .int .i64 4])
end Go.Proofs.YtkhnkidggcjfeaaGreatDoor
end
section
namespace Go.Proofs.YtkhnkidggcjfeaaGreatDoor
open Go.RowKit
def packD (o : OpD) (d : List Int) : List Int := le4 o.kind ++ (sizedL (sb o.p) ++ (sizedL (sb o.q) ++ sizedL d))
structure PackIn (W0 : Base) (L : List Rw) (a : Option Addr) (ops : List (OpD × List Int)) : Prop where
  at_ : ∀ w' L', Own W0 w' L' → (∀ x ∈ L, x ∈ L') → ∀ i (h : i < ops.length), ∃ g off, a = some ⟨g, off, none⟩ ∧ w'.rangeAt g (off + i * 4) ops[i].1.cells
  data : ∀ w' L', Own W0 w' L' → (∀ x ∈ L, x ∈ L') → ∀ o ∈ ops, By w' (.slice o.1.a o.1.n o.1.c) o.2
  kind : ∀ o ∈ ops, 0 ≤ o.1.kind ∧ o.1.kind < 4294967296
  len : ∀ o ∈ ops, o.1.p.size ≤ 100000 ∧ o.1.q.size ≤ 100000 ∧ o.2.length ≤ 100000
def packsD (ops : List (OpD × List Int)) : List Int := (ops.map fun o => packD o.1 o.2).flatten
def boxOp (H : Nat) (o : OpD) : Rw := ⟨40, 4, .slice (some ⟨H, 0, none⟩) 1 1, 1, o.cells⟩
def rowPt (v : Value) (PS : List (Value × List Int)) : Rw := ⟨224, 1, v, PS.length, PS.map (·.1)⟩
theorem box_cells {W0 : Base} {w : World} {L : List Rw} (h : Own W0 w L) {H : Nat} {o : OpD} (hm : boxOp H o ∈ L) :
    w.cell? ⟨H, 0, none⟩ = some (.int .i64 o.kind) ∧ w.cell? ⟨H, 1, none⟩ = some (.string o.p) ∧ w.cell? ⟨H, 2, none⟩ = some (.string o.q) ∧ w.cell? ⟨H, 3, none⟩ = some (.slice o.a o.n o.c) := by
  have h1 := h.only hm
  exact ⟨Own.cell (h := h1) 0 (by decide), Own.cell (h := h1) 1 (by decide), Own.cell (h := h1) 2 (by decide), Own.cell (h := h1) 3 (by decide)⟩
def PkRel (W0 : Base) (L : List Rw) (ops : List (OpD × List Int)) (k : Nat) (v : Value) (wr : World) : Prop :=
  ∃ (PS : List (Value × List Int)) (L1 : List Rw), Own W0 wr (rowPt v PS :: (L1 ++ L)) ∧ (∀ p ∈ PS, rowU p.1 p.2 ∈ L1 ∧ Byts p.2) ∧ allOf PS = packsD (ops.take k) ∧ PS.length = 4 * k
theorem part_info : ∃ i, Tryz.prog.info? 224 = some i ∧ i.zero = some (.slice none 0 0) ∧ i.size = 1 ∧ i.bytes = 24 := by
  have h : (Tryz.prog.info? 224).map (fun i => (i.zero, i.size, i.bytes)) = some (some (.slice none 0 0), 1, 24) := by kernel_rfl
  cases hi : Tryz.prog.info? 224 with
  | none => rw [hi] at h; cases h
  | some i =>
    rw [hi] at h
    injection h with h
    injection h with h1 h2
    injection h2 with h2 h3
    exact ⟨i, rfl, h1, h2, h3⟩
theorem packsD_snoc (ops : List (OpD × List Int)) (k : Nat) (h : k < ops.length) : packsD (ops.take (k + 1)) = packsD (ops.take k) ++ packD ops[k].1 ops[k].2 := by
  unfold packsD
  rw [List.take_succ_eq_append_getElem h, List.map_append, List.flatten_append]
  simp
theorem packD_len {o : OpD} {d : List Int} (h1 : o.p.size ≤ 100000) (h2 : o.q.size ≤ 100000) (h3 : d.length ≤ 100000) : (packD o d).length ≤ 300016 := by
  unfold packD
  simp only [List.length_append, sizedL_length, sb_length]
  have : (le4 o.kind).length = 4 := rfl
  omega
theorem packsD_len (ops : List (OpD × List Int)) (h : ∀ o ∈ ops, o.1.p.size ≤ 100000 ∧ o.1.q.size ≤ 100000 ∧ o.2.length ≤ 100000) : (packsD ops).length ≤ 300016 * ops.length := by
  unfold packsD
  induction ops with
  | nil => simp
  | cons o r ih =>
    have h1 := ih fun x hx => h x (List.mem_cons_of_mem _ hx)
    obtain ⟨a, b, c⟩ := h o (List.mem_cons_self ..)
    have h2 := packD_len a b c
    simp only [List.map_cons, List.flatten_cons, List.length_append, List.length_cons]
    omega
theorem PkRel.parts {W0 : Base} {L : List Rw} {ops : List (OpD × List Int)} {k : Nat} {v : Value} {wr : World} (h : PkRel W0 L ops k v wr) : ∃ a c PS, v = .slice a PS.length c ∧ Parts wr a PS ∧ allOf PS = packsD (ops.take k) ∧ PS.length = 4 * k := by
  obtain ⟨PS, L1, h1, h2, h3, h4⟩ := h
  obtain ⟨a, c, hv, _, _⟩ := Own.sized (h := (show Own W0 wr (⟨224, 1, v, PS.length, PS.map (·.1)⟩ :: (L1 ++ L)) from h1))
  refine ⟨a, c, PS, hv, fun i hi => ?_, h3, h4⟩
  obtain ⟨g, cap, e, _⟩ := Own.form (h := (show Own W0 wr (⟨224, 1, v, PS.length, PS.map (·.1)⟩ :: (L1 ++ L)) from h1)) (by omega)
  rw [e] at hv h1
  injection hv with e1 _ _
  have hc := Own.cell (h := h1) i (by omega)
  refine ⟨g, 0, e1.symm, ?_, ?_⟩
  · rw [Nat.zero_add, hc, List.getElem?_eq_getElem (by simpa using hi)]
    simp
  · obtain ⟨m1, m2⟩ := h2 _ (List.getElem_mem hi)
    exact (h1.only (List.mem_cons_of_mem _ (List.mem_append_left _ m1))).by m2
theorem Own.formU {W0 : Base} {w : World} {v : Value} {zs : List Int} {L : List Rw} (h : Own W0 w (rowU v zs :: L)) : ∃ a k c, v = .slice a k c := by
  obtain ⟨a, c, e, _⟩ := Own.sized (h := (show Own W0 w (⟨5, 1, v, zs.length, bs zs⟩ :: L) from h))
  exact ⟨a, _, c, e⟩
theorem lit_src4 (w : World) (T : TypeId) (a b c d : Value) (ha : a.oneCell' = true) (hb : b.oneCell' = true) (hc : c.oneCell' = true) (hd : d.oneCell' = true) : Src (w.alloc (.cells #[a, b, c, d] T)) (.slice (some ⟨w.heap.size, 0, none⟩) 4 4) 4 [a, b, c, d] := by
  refine .inr ⟨_, _, rfl, fun j u hj => ?_, fun u hu => ?_⟩
  · rw [Addr.add_mid, Nat.zero_add, World.cell?_alloc_new]
    have e : (#[a, b, c, d] : Array Value)[j]? = ([a, b, c, d] : List Value)[j]? := by rw [← Array.getElem?_toList]
    rw [e]; exact hj
  · simp only [List.mem_cons, List.not_mem_nil, or_false] at hu
    rcases hu with rfl | rfl | rfl | rfl <;> assumption
theorem PkRel.step {W0 : Base} {L L1 : List Rw} {ops : List (OpD × List Int)} {k : Nat} {v' va vb vc vd : Value} {w7 : World} {PS : List (Value × List Int)} {bx : Rw} {o : OpD} {d : List Int} (hO : Own W0 w7 (⟨224, 1, v', PS.length + 4, PS.map (·.1) ++ [va, vb, vc, vd]⟩ :: ([rowU vd (sizedL d), rowU vc (sizedL (sb o.q)), rowU vb (sizedL (sb o.p)), rowU va (le4 o.kind), bx] ++ (L1 ++ L))))
    (hk0 : 0 ≤ o.kind) (hk1 : o.kind < 4294967296) (lp : o.p.size < 4294967296) (lq : o.q.size < 4294967296) (ld : d.length < 4294967296) (hd : Byts d) (hps : ∀ p ∈ PS, rowU p.1 p.2 ∈ L1 ∧ Byts p.2) (hall : allOf PS = packsD (ops.take k)) (hlen : PS.length = 4 * k) (hsn : packsD (ops.take (k + 1)) = packsD (ops.take k) ++ packD o d) : PkRel W0 L ops (k + 1) v' w7 := by
  refine ⟨PS ++ [(va, le4 o.kind), (vb, sizedL (sb o.p)), (vc, sizedL (sb o.q)), (vd, sizedL d)], [rowU vd (sizedL d), rowU vc (sizedL (sb o.q)), rowU vb (sizedL (sb o.p)), rowU va (le4 o.kind), bx] ++ L1, ?_, fun p hp => ?_, ?_, by simp [hlen]; omega⟩
  · have e : rowPt v' (PS ++ [(va, le4 o.kind), (vb, sizedL (sb o.p)), (vc, sizedL (sb o.q)), (vd, sizedL d)]) = ⟨224, 1, v', PS.length + 4, PS.map (·.1) ++ [va, vb, vc, vd]⟩ := by
      unfold rowPt; simp
    rw [e, List.append_assoc]; exact hO
  · rcases List.mem_append.1 hp with hp | hp
    · obtain ⟨m1, m2⟩ := hps p hp
      exact ⟨List.mem_append_right _ m1, m2⟩
    · simp only [List.mem_cons, List.not_mem_nil, or_false] at hp
      rcases hp with rfl | rfl | rfl | rfl
      · exact ⟨List.mem_append_left _ (by simp), le4_byts _ hk0 hk1⟩
      · exact ⟨List.mem_append_left _ (by simp), sizedL_byts _ (sb_byts _) (by rw [sb_length]; exact lp)⟩
      · exact ⟨List.mem_append_left _ (by simp), sizedL_byts _ (sb_byts _) (by rw [sb_length]; exact lq)⟩
      · exact ⟨List.mem_append_left _ (by simp), sizedL_byts _ hd ld⟩
  · rw [hsn, ← hall]
    unfold allOf packD
    rw [List.map_append, List.flatten_append]
    simp
set_option maxHeartbeats 8000000 in
theorem pack_ops {W0 : Base} {w : World} {L : List Rw} (hO : Own W0 w L) {a : Option Addr} {ops : List (OpD × List Int)} (hP : PackIn W0 L a ops) (cap : Nat) (hn : ops.length ≤ 100000) :
    Calls Tryz.prog 107 #[.slice a ops.length cap] w fun e w' => ∃ v L1, e = .returned v ∧ Own W0 w' (rowU v (packsD ops) :: (L1 ++ L)) := by
  have HP := Lib.hid hP
  have HR0 := Lib.hid (show PkRel W0 L ops 0 (.slice none 0 0) w from ⟨[], [], Own.nil hO _ _, (fun p hp => by cases hp), rfl, rfl⟩)
  obtain ⟨inf, hi0, hi1, hi2, hi3⟩ := part_info
  have Hi0 := Lib.hid hi0
  have Hi1 := Lib.hid hi1
  have Hi2 := Lib.hid hi2
  have Hi3 := Lib.hid hi3
  clear hi0 hi1 hi2 hi3 hO hP
  go_enter Tryz.func107, Tryz.ntmps107
  go_wp2_with fail
  go_loopw [3, 8] (fun v iv wr => ∃ k : Nat, k ≤ ops.length ∧ iv = .int .i64 k ∧ PkRel W0 L ops k v wr) (fun _ iv _ => ops.length - (intOf iv).toNat)
  case atStart => exact ⟨0, Nat.zero_le _, rfl, HR0.out⟩
  case round =>
    obtain ⟨k, hk, rfl, hR⟩ := hrel
    by_cases hkl : k < ops.length
    · obtain ⟨PS, L1, hO, hps, hall, hlen⟩ := hR
      obtain ⟨o, ho, ⟨g, off, rfl, hr⟩, hmem⟩ : ∃ o, o = ops[k] ∧ (∃ g off, a = some ⟨g, off, none⟩ ∧ wr.rangeAt g (off + k * 4) o.1.cells) ∧ o ∈ ops := ⟨_, rfl, HP.out.at_ wr _ hO (fun x hx => List.mem_cons_of_mem _ (List.mem_append_right _ hx)) k hkl, List.getElem_mem hkl⟩
      have hsn := packsD_snoc ops k hkl
      rw [← ho] at hsn
      obtain ⟨hk0, hk1⟩ := HP.out.kind o hmem
      obtain ⟨hp1, hp2, hp3⟩ := HP.out.len o hmem
      have hdata := fun w' L' (h1 : Own W0 w' L') (h2 : ∀ x ∈ L, x ∈ L') => HP.out.data w' L' h1 h2 o hmem
      have Hdata := Lib.hid hdata
      have Hsn := Lib.hid hsn
      have Hr := Lib.hid hr
      have HO := Lib.hid hO
      have Hone := Lib.hid (op_one o.1)
      have Hps := Lib.hid hps
      have Hall := Lib.hid hall
      have Hlen := Lib.hid hlen
      have Hkl := Lib.hid hkl
      have hb63 : (k : Int) < (ops.length : Int) := by exact_mod_cast hkl
      clear hdata hsn hr hO hps hall hlen ho hmem
      go_wp2_with (first
        | (refine wpList_load_mid rfl 40 (.tmp 10) rfl g (off + k * 4) rfl o.1.cells _ Hr.out Tryz.underlying40 rfl (info_op _) ?_)
        | (refine wpList_store_new rfl 40 (.tmp 5) (.tmp 11) rfl HO.out o.1.cells wr.heap.size rfl rfl rfl rfl (info_op _) Hone.out ?_))
      intro w3 hO3 hlt3
      obtain ⟨H, hH⟩ : ∃ H, wr.heap.size = H := ⟨_, rfl⟩
      rw [hH] at hO3 ⊢
      have HO3 := Lib.hid (show Own W0 w3 (boxOp H o.1 :: rowPt u3 PS :: (L1 ++ L)) from hO3)
      have s0 := box_cells HO3.out (List.mem_cons_self ..)
      clear hO3 Hr HO Hone hH hlt3
      obtain ⟨OA, hOA⟩ : ∃ OA, o.1 = OA := ⟨_, rfl⟩
      obtain ⟨d, hd⟩ : ∃ d, o.2 = d := ⟨_, rfl⟩
      rw [hOA] at hk0 hk1 hp1 hp2 HO3 s0 Hsn Hdata
      rw [hd] at hp3 Hsn Hdata
      obtain ⟨q0, q1, q2, q3⟩ := id s0
      have lp : OA.p.size < 4294967296 := by omega
      have lq : OA.q.size < 4294967296 := by omega
      have ld : d.length < 4294967296 := by omega
      clear hOA hd hp1 hp2 hp3
      have hbd : Byts d := (Hdata.out w3 _ HO3.out (fun x hx => List.mem_cons_of_mem _ (List.mem_cons_of_mem _ (List.mem_append_right _ hx)))).2.1
      have Hstep := Lib.hid (fun (v' va vb vc vd : Value) (w7 : World) (hO7 : Own W0 w7 (⟨224, 1, v', PS.length + 4, PS.map (·.1) ++ [va, vb, vc, vd]⟩ :: ([rowU vd (sizedL d), rowU vc (sizedL (sb OA.q)), rowU vb (sizedL (sb OA.p)), rowU va (le4 OA.kind), boxOp H OA] ++ (L1 ++ L)))) => PkRel.step (ops := ops) (k := k) hO7 hk0 hk1 lp lq ld hbd Hps.out Hall.out Hlen.out Hsn.out)
      have hpl : PS.length ≤ 400000 := by have := Hlen.out; have := Hkl.out; omega
      clear hbd
      obtain ⟨κ, p, q, da, dn, dc⟩ := OA
      dsimp only at hk0 hk1 lp lq s0 q0 q1 q2 q3 Hdata Hstep
      have HD := Lib.hid (show ∀ w' L', Own W0 w' L' → (∀ x ∈ L, x ∈ L') → By w' (.slice da dn dc) d from Hdata.out)
      clear Hdata
      go_wp2_with fail
      go_region_held3 (fun w' : World => w'.cell? ⟨H, 0, none⟩ = some (.int .i64 κ) ∧ w'.cell? ⟨H, 1, none⟩ = some (.string p) ∧ w'.cell? ⟨H, 2, none⟩ = some (.string q) ∧ w'.cell? ⟨H, 3, none⟩ = some (.slice da dn dc)) (first | exact s0 | exact sa | exact sb2 | exact sc | exact sd | exact sy | go_keep) (first
        | (go_at_call 144; refine (num_any κ _ hk0 hk1).mono ?_; rintro e wa ⟨va, rfl, hOa⟩; obtain ⟨aa, na, ca, rfl⟩ := hOa.formU; have HOa := Lib.hid (show Own W0 wa (rowU (.slice aa na ca) (le4 κ) :: boxOp H ⟨κ, p, q, da, dn, dc⟩ :: rowPt u3 PS :: (L1 ++ L)) from (by first | exact HO3.out.drew.join hOa | exact HO3.out.join hOa)); have sa := box_cells HOa.out (by simp : boxOp H ⟨κ, p, q, da, dn, dc⟩ ∈ _); obtain ⟨qa0, qa1, qa2, qa3⟩ := id sa; clear hOa)
        | (go_at_call 150; refine (text_any p _ lp).mono ?_; rintro e wb ⟨vb, rfl, hOb⟩; obtain ⟨ab, nb, cb, rfl⟩ := hOb.formU; have HOb := Lib.hid (show Own W0 wb (rowU (.slice ab nb cb) (sizedL (sb p)) :: rowU (.slice aa na ca) (le4 κ) :: boxOp H ⟨κ, p, q, da, dn, dc⟩ :: rowPt u3 PS :: (L1 ++ L)) from (by first | exact HOa.out.drew.join hOb | exact HOa.out.join hOb)); have sb2 := box_cells HOb.out (by simp : boxOp H ⟨κ, p, q, da, dn, dc⟩ ∈ _); obtain ⟨qb0, qb1, qb2, qb3⟩ := id sb2; clear hOb)
        | (go_at_call 150; refine (text_any q _ lq).mono ?_; rintro e wc ⟨vc, rfl, hOc⟩; obtain ⟨ac, nc, cc, rfl⟩ := hOc.formU; have HOc := Lib.hid (show Own W0 wc (rowU (.slice ac nc cc) (sizedL (sb q)) :: rowU (.slice ab nb cb) (sizedL (sb p)) :: rowU (.slice aa na ca) (le4 κ) :: boxOp H ⟨κ, p, q, da, dn, dc⟩ :: rowPt u3 PS :: (L1 ++ L)) from (by first | exact HOb.out.drew.join hOc | exact HOb.out.join hOc)); have sc := box_cells HOc.out (by simp : boxOp H ⟨κ, p, q, da, dn, dc⟩ ∈ _); have hbc := HD.out wc _ HOc.out (by intro x hx; simp [hx]); obtain ⟨qc0, qc1, qc2, qc3⟩ := id sc; clear hOc)
        | (go_at_call 146; refine (raw_any _ d _ ?_ ld).mono ?_; exact hbc; rintro e wd ⟨vd, rfl, hOd⟩; obtain ⟨ad, nd, cd, rfl⟩ := hOd.formU; have HOd := Lib.hid (show Own W0 wd (rowU (.slice ad nd cd) (sizedL d) :: rowU (.slice ac nc cc) (sizedL (sb q)) :: rowU (.slice ab nb cb) (sizedL (sb p)) :: rowU (.slice aa na ca) (le4 κ) :: boxOp H ⟨κ, p, q, da, dn, dc⟩ :: rowPt u3 PS :: (L1 ++ L)) from (by first | exact HOc.out.drew.join hOd | exact HOc.out.join hOd)); have sd := box_cells HOd.out (by simp : boxOp H ⟨κ, p, q, da, dn, dc⟩ ∈ _); obtain ⟨qd0, qd1, qd2, qd3⟩ := id sd; have HP4 := Lib.hid (show Own W0 wd (⟨224, 1, u3, PS.length, PS.map (·.1)⟩ :: ([rowU (.slice ad nd cd) (sizedL d), rowU (.slice ac nc cc) (sizedL (sb q)), rowU (.slice ab nb cb) (sizedL (sb p)), rowU (.slice aa na ca) (le4 κ), boxOp H ⟨κ, p, q, da, dn, dc⟩] ++ (L1 ++ L))) from HOd.out.perm (List.perm_middle (l₁ := [rowU (.slice ad nd cd) (sizedL d), rowU (.slice ac nc cc) (sizedL (sb q)), rowU (.slice ab nb cb) (sizedL (sb p)), rowU (.slice aa na ca) (le4 κ), boxOp H ⟨κ, p, q, da, dn, dc⟩]))); clear hOd)
        | (refine step_append_src (by rfl) (.tmp 12) (.tmp 25) 232 (by rfl) u3 PS.length (PS.map (·.1)) _ 4 [.slice aa na ca, .slice ab nb cb, .slice ac nc cc, .slice ad nd cd] (by rfl) (by rfl) (by first | exact HP4.out.alloc _ | exact HP4.out.drew.alloc _ | exact (HP4.out.alloc _).drew) inf (.slice none 0 0) 24 Tryz.underlying232 Hi0.out Hi1.out Hi2.out Hi3.out rfl (by decide) (lit_src4 _ _ _ _ _ _ rfl rfl rfl rfl) rfl (by unfold maxLen; omega) (by omega) ?_; intro v7 w7 hO7; have HR7 := Lib.hid (Hstep.out _ _ _ _ _ _ hO7); have sy := box_cells hO7 (by simp : boxOp H ⟨κ, p, q, da, dn, dc⟩ ∈ _); clear hO7))
      all_goals clear HP4 HOc HOb HOa HO3 Hstep
      all_goals go_wp2_with fail
      all_goals go_roundw
      case rel => exact ⟨k + 1, by have := Hkl.out; omega, by go_num, HR7.out⟩
      case measure => have := Hkl.out; simp [intOf]; omega
    · have hke : k = ops.length := by omega
      subst hke
      obtain ⟨PS, L1, hO, _⟩ := id hR
      obtain ⟨a2, c2, PS2, rfl, hparts, hall, hl2⟩ := hR.parts
      rw [List.take_length] at hall
      have hpl := packsD_len ops HP.out.len
      have hpk := pack_any a2 c2 PS2 wr hparts (by unfold maxLen; omega) (by rw [hall]; omega)
      rw [hall] at hpk
      have HO := Lib.hid hO.tail
      have hb63 : ¬ ((ops.length : Int) < (ops.length : Int)) := Int.lt_irrefl _
      clear hparts hR hO hl2 hpl
      go_wp2_with fail
      refine hpk.mono ?_
      rintro e w5 ⟨v5, rfl, hO5⟩
      have HO5 := Lib.hid (HO.out.join hO5)
      clear hO5 hpk
      go_wp2_with fail
      go_ret
      exact ⟨_, L1, rfl, HO5.out⟩
end Go.Proofs.YtkhnkidggcjfeaaGreatDoor
end
section
namespace Go.Proofs.YtkhnkidggcjfeaaGreatDoor
open Go.RowKit
def litB (c : Int) : Obj := .cells #[.int .u8 c] 5 (1, 2)
theorem lit_by {w : World} {b : Nat} {c : Int} (h : w.heap[b]? = some (litB c)) (h0 : 0 ≤ c) (h1 : c < 256) : By w (.slice (some ⟨b, 0, none⟩) 1 1) [c] :=
  block_by (zs := [c]) h rfl (fun z hz => by rw [List.mem_singleton.1 hz]; exact ⟨h0, h1⟩) (by simp)
theorem repeat_zero (w : World) (v : Value) : Calls Tryz.prog 106 #[v, .int .i64 0] w fun e w' => e = .returned (.slice (some ⟨w.heap.size, 0, none⟩) 0 0) ∧ w' = w.alloc (.cells #[] 5) := by
  go_enter Tryz.func106, Tryz.ntmps106
  go_wp2_with fail
  go_ret
  exact ⟨rfl, rfl⟩
theorem flatO (ds : List OpD) (i j : Nat) (hi : i < ds.length) (hj : j < 4) : (ds.map OpD.cells).flatten[i * 4 + j]? = (ds[i]).cells[j]? := by
  induction ds generalizing i with
  | nil => simp at hi
  | cons d r ih =>
    rw [List.map_cons, List.flatten_cons]
    have hl : d.cells.length = 4 := rfl
    cases i with
    | zero => rw [Nat.zero_mul, Nat.zero_add, List.getElem?_append_left (by omega)]; rfl
    | succ i =>
      rw [List.getElem?_append_right (by omega), show (i + 1) * 4 + j - d.cells.length = i * 4 + j by omega]
      exact ih i (by simpa using hi)
theorem flatO_len (ds : List OpD) : (ds.map OpD.cells).flatten.length = ds.length * 4 := by
  induction ds with
  | nil => rfl
  | cons d r ih =>
    have h4 : d.cells.length = 4 := rfl
    have h5 : (d :: r).length = r.length + 1 := rfl
    rw [List.map_cons, List.flatten_cons, List.length_append, ih, h4, h5]; omega
theorem flatO_one (ds : List OpD) : ∀ u ∈ (ds.map OpD.cells).flatten, u.oneCell' = true := by
  intro u hu
  obtain ⟨l, hl, h2⟩ := List.mem_flatten.1 hu
  obtain ⟨d, _, rfl⟩ := List.mem_map.1 hl
  exact op_one d u h2
set_option maxHeartbeats 800000 in
theorem cloneOps_any (w : World) (a : Option Addr) (ds : List OpD) (cap : Nat) (hn : 0 < ds.length) (hl : ds.length ≤ 100000) (hr : ∀ i (h : i < ds.length), ∃ g off, a = some ⟨g, off, none⟩ ∧ w.rangeAt g (off + i * 4) ds[i].cells) :
    Calls Tryz.prog 104 #[.slice a ds.length cap] w fun e w' => ∃ v, e = .returned v ∧ Own w w' [rowO v ds] := by
  obtain ⟨i0, hi, hz0, hz1, hz2⟩ := info_op3
  obtain ⟨g, off, rfl, _⟩ := hr 0 hn
  have hs : Src w (.slice (some ⟨g, off, none⟩) ds.length cap) ds.length (ds.map OpD.cells).flatten := by
    refine .inr ⟨_, _, rfl, fun j u hj => ?_, flatO_one ds⟩
    have hj4 : j < ds.length * 4 := by
      have := (List.getElem?_eq_some_iff.1 hj).1
      rw [flatO_len] at this; exact this
    have hi4 : j / 4 < ds.length := by omega
    obtain ⟨g2, o2, e2, h2⟩ := hr (j / 4) hi4
    injection e2 with e2
    injection e2 with e3 e4
    subst e3 e4
    rw [show j = j / 4 * 4 + j % 4 by omega, flatO ds _ _ hi4 (by omega)] at hj
    have := h2 (j % 4) u hj
    rw [Addr.add_mid]
    rw [show off + j = off + j / 4 * 4 + j % 4 by omega]
    exact this
  have hnil : Sem.run Tryz.prog (binOp BinOp.eql 55 (.slice (some ⟨g, off, none⟩) ds.length cap) (.slice none 0 0)) w = .ok (.bool false) w := Lib.run_eql_slice_nil (P := Tryz.prog) w 55 40 (some ⟨g, off, none⟩) ds.length cap 0 0 Tryz.underlying55
  have HO := Lib.hid ((Own.start w).made 40 4 #[] 0 rfl (Nat.zero_le _))
  have Hs := Lib.hid (hs.later (Below.alloc (Below.refl _ w) (Nat.le_refl _) (.cells #[] 40)))
  have Hl := Lib.hid (flatO_len ds)
  have hl2 : 0 + ds.length ≤ maxLen := by unfold maxLen; omega
  have hl3 : (0 + ds.length) * 64 ≤ 140737488355328 := by omega
  clear hs hr
  go_enter Tryz.func104, Tryz.ntmps104
  go_wp2_with (at_builtin; refine wpList_append_src rfl (.tmp 5) (.tmp 6) 55 rfl (.slice (some ⟨w.heap.size, 0, none⟩) 0 0) 0 [] (.slice (some ⟨g, off, none⟩) ds.length cap) ds.length (ds.map OpD.cells).flatten rfl rfl HO.out i0 zOp 64 Tryz.underlying55 hi hz0 hz1 hz2 zOp_size (by decide) Hs.out Hl.out hl2 hl3 ?_)
  intro v' w' hO'
  have HO' := Lib.hid hO'
  clear hO'
  go_wp2_with fail
  go_ret
  exact ⟨_, rfl, by have := HO'.out; simpa [rowO] using this⟩
end Go.Proofs.YtkhnkidggcjfeaaGreatDoor
end
section
namespace Go.Proofs.YtkhnkidggcjfeaaGreatDoor
open Go.RowKit
open Go.ChangeMaps (setBlock)
set_option linter.unusedSectionVars false
def blkOf (w : World) (r : Rw) : Blocks := match r.v.ownBlock with
  | none => []
  | some k => match w.heap[k]? with
    | some o => [(k, o)]
    | none => []
def blks (w : World) (R : List Rw) : Blocks := R.flatMap (blkOf w)
theorem blkOf_mem {w : World} {r : Rw} {m : Nat × Obj} (h : m ∈ blkOf w r) : r.v.ownBlock = some m.1 ∧ w.heap[m.1]? = some m.2 := by
  unfold blkOf at h
  cases h1 : r.v.ownBlock with
  | none => rw [h1] at h; cases h
  | some k =>
    rw [h1] at h
    simp only at h
    cases h2 : w.heap[k]? with
    | none => rw [h2] at h; cases h
    | some o =>
      rw [h2] at h
      rw [List.mem_singleton.1 h]
      exact ⟨rfl, h2⟩
theorem blks_mem {w : World} {R : List Rw} {m : Nat × Obj} (h : m ∈ blks w R) : ∃ r ∈ R, r.v.ownBlock = some m.1 ∧ w.heap[m.1]? = some m.2 := by
  obtain ⟨r, hr, h2⟩ := List.mem_flatMap.1 h
  exact ⟨r, hr, blkOf_mem h2⟩
theorem blks_of {w : World} {R : List Rw} {r : Rw} (hr : r ∈ R) {k : Nat} {o : Obj} (hk : r.v.ownBlock = some k) (ho : w.heap[k]? = some o) : (k, o) ∈ blks w R := by
  refine List.mem_flatMap.2 ⟨r, hr, ?_⟩
  unfold blkOf
  rw [hk]
  simp only [ho, List.mem_singleton]
def offR (R : List Rw) (S : Blocks) : Blocks := S.filter fun m => decide (∀ r ∈ R, r.v.ownBlock ≠ some m.1)
theorem offR_mem {R : List Rw} {S : Blocks} {m : Nat × Obj} : m ∈ offR R S ↔ m ∈ S ∧ ∀ r ∈ R, r.v.ownBlock ≠ some m.1 := by
  unfold offR
  rw [List.mem_filter, decide_eq_true_iff]
section
variable {w0 w w' : World} {S S' : Blocks} {R L L' : List Rw}
theorem Own.shelve (h : Own ⟨w0, S⟩ w (R ++ L)) : Own ⟨w0, blks w R ++ S⟩ w L := by
  obtain ⟨p1, p2, p3⟩ := List.pairwise_append.1 h.apart
  refine ⟨h.below, fun p hp => h.rows p (List.mem_append_right _ hp), p2, fun m hm => ?_, fun m hm p hp => ?_⟩
  · rcases List.mem_append.1 hm with hm | hm
    · obtain ⟨r, hr, h1, h2⟩ := blks_mem hm
      exact ⟨((h.rows r (List.mem_append_left _ hr)).lt _ h1).1, h2⟩
    · exact h.maps m hm
  · rcases List.mem_append.1 hm with hm | hm
    · obtain ⟨r, hr, h1, h2⟩ := blks_mem hm
      rcases p3 r hr p hp with h3 | h3
      · rw [h1] at h3; cases h3
      · rw [h1] at h3; exact fun e => h3 e.symm
    · exact h.offmaps m hm p (List.mem_append_right _ hp)
theorem Own.unshelve (h : Own ⟨w0, S⟩ w (R ++ L)) (h' : Own ⟨w0, S'⟩ w' L') (hk : ∀ m ∈ blks w R, m ∈ S') : Own ⟨w0, offR R S'⟩ w' (R ++ L') := by
  obtain ⟨p1, p2, p3⟩ := List.pairwise_append.1 h.apart
  have hrow : ∀ r ∈ R, ∀ k, r.v.ownBlock = some k → ∃ o, (k, o) ∈ S' := fun r hr k hb => by
    have := (h.rows r (List.mem_append_left _ hr)).lt k hb
    obtain ⟨o, ho⟩ : ∃ o, w.heap[k]? = some o := ⟨_, Array.getElem?_eq_getElem this.2⟩
    exact ⟨o, hk _ (blks_of hr hb ho)⟩
  refine ⟨h'.below, fun p hp => ?_, List.pairwise_append.2 ⟨p1, h'.apart, fun r hr p hp => ?_⟩, fun m hm => h'.maps m (offR_mem.1 hm).1, fun m hm p hp => ?_⟩
  · rcases List.mem_append.1 hp with hp | hp
    · obtain ⟨q1, q2⟩ := h.rows p (List.mem_append_left _ hp)
      refine ⟨q1, ?_⟩
      rcases q2 with q2 | ⟨g, cap, cur, e1, e2, e3, e4⟩
      · exact .inl q2
      · exact .inr ⟨g, cap, cur, e1, e2, (h'.maps _ (hk _ (blks_of hp (by rw [e1]; rfl) e3))).2, e4⟩
    · exact h'.rows p hp
  · cases hb : r.v.ownBlock with
    | none => exact .inl rfl
    | some k =>
      obtain ⟨o, ho⟩ := hrow r hr k hb
      exact .inr fun e => h'.offmaps _ ho p hp e.symm
  · rcases List.mem_append.1 hp with hp | hp
    · exact (offR_mem.1 hm).2 p hp
    · exact h'.offmaps m (offR_mem.1 hm).1 p hp
theorem Own.offB (h : Own ⟨w0, S⟩ w (R ++ L)) {b : Nat} {o : Obj} (hb : (b, o) ∈ S) : ∀ r ∈ R, r.v.ownBlock ≠ some b := fun r hr => h.offmaps _ hb r (List.mem_append_left _ hr)
theorem Own.freshR (h : Own ⟨w0, S⟩ w (R ++ L)) {b : Nat} (hb : w.heap.size ≤ b) : ∀ r ∈ R, r.v.ownBlock ≠ some b := fun r hr e => by
  have := ((h.rows r (List.mem_append_left _ hr)).lt b e).2
  omega
theorem upd_self {b : Nat} {o : Obj} (hb : ∀ m ∈ S, m.1 = b → m.2 = o) : upd S b o = S := by
  unfold upd
  refine (List.map_congr_left fun m hm => ?_).trans (List.map_id _)
  split
  · rename_i e
    rw [← hb m hm e, ← e]; rfl
  · rfl
theorem Own.upd_same' (h : Own ⟨w0, S⟩ w L) {b : Nat} {o : Obj} (hb : (b, o) ∈ S) : upd S b o = S :=
  upd_self fun m hm e => h.uniq (b := b) (by rw [← e]; exact hm) hb
end
end Go.Proofs.YtkhnkidggcjfeaaGreatDoor
end
section
namespace Go.Proofs.YtkhnkidggcjfeaaGreatDoor
open Go.RowKit
theorem cell_alloc {w : World} {p : Addr} {v : Value} (h : w.cell? p = some v) (o : Obj) : (w.alloc o).cell? p = some v :=
  ((Below.alloc (Below.refl _ w) (Nat.le_refl _) o).cell (World.block_lt_of_cell? w _ h)).trans h
theorem cell_drew {w : World} {p : Addr} {v : Value} (h : w.cell? p = some v) : w.drew.cell? p = some v := h
theorem By.alloc {w : World} {v : Value} {zs : List Int} (h : By w v zs) (o : Obj) : By (w.alloc o) v zs := h.later (Below.alloc (Below.refl _ w) (Nat.le_refl _) o)
section
variable {P : Program}
theorem run_copy_into {W0 : Base} {w : World} {L : List Rw} {e size g n cap : Nat} {xs : List Value} (h : Own W0 w (⟨e, size, .slice (some ⟨g, 0, none⟩) n cap, n, xs⟩ :: L)) (t ty elem : TypeId) (hu : P.underlying t = some (.slice elem)) (hz : (P.info? elem).map (·.size) = some 1)
    (off dLen dCap : Nat) (sv : Value) (zs : List Int) (hs : By w sv zs) (k : Nat) (hk : k = min zs.length dLen) (hfit : off + k ≤ n * size) :
    ∃ w', (Builtin.copy_ #[t, t] ty #[.slice (some ⟨g, off, none⟩) dLen dCap, sv]).run P w = .ok (goInt k) w' ∧ Own W0 w' (⟨e, size, .slice (some ⟨g, 0, none⟩) n cap, n, splice xs off (bs (zs.take k))⟩ :: L) := by
  have hl : (bs (zs.take k)).length = k := by rw [bs_length, List.length_take]; omega
  by_cases h0 : k = 0
  · obtain ⟨a, c, rfl, _, _⟩ := hs.2.2
    refine ⟨w, ?_, ?_⟩
    · rw [h0]
      exact run_copy_none (P := P) w t t ty elem _ _ dLen dCap zs.length c hu hz (by show min _ _ = 0; omega)
    · rw [h0, List.take_zero]; exact h
  · obtain ⟨g2, o, c, rfl, _, _, hc⟩ := hs.cells (by omega)
    have ht := Own.there (h := h) off k hfit
    have hr := run_copy_cells (P := P) w t t ty elem g off dLen dCap ⟨g2, o, none⟩ zs.length c (bs (zs.take k)) hu hz (by rw [hl, hk]) (fun j v hj => by
      have hlt : j < k := by
        rcases Nat.lt_or_ge j k with h1 | h1
        · exact h1
        · rw [List.getElem?_eq_none (by omega)] at hj; cases hj
      rw [Addr.add_mid, hc j (by omega), ← hj]
      simp [bs, List.getElem?_take, hlt, List.getElem?_eq_getElem (show j < zs.length by omega)]) (fun j hj => (ht j (by omega)).1) (fun j hj => (ht j (by omega)).2) (bs_one _)
    rw [hl] at hr
    exact ⟨_, hr, Own.setCells (h := h) _ off⟩
theorem wpList_copy_into {ops : Array Oper} {rest : List Oper} {o : Oper} {a : Act} {w : World} {Q : Exit → Act → World → Prop} (hgd : o.guard = none) (s x : Operand) (t : TypeId)
    (ho : o.op = .call { callee := .builtin .copy, args := #[s, x], argTypes := #[t, t] }) {W0 : Base} {L : List Rw} {e size g n cap : Nat} {xs : List Value} (off dLen dCap : Nat) (sv : Value) (zs : List Int) (hd : a.eval s = .slice (some ⟨g, off, none⟩) dLen dCap) (hx : a.eval x = sv) (h : Own W0 w (⟨e, size, .slice (some ⟨g, 0, none⟩) n cap, n, xs⟩ :: L))
    (elem : TypeId) (hu : P.underlying t = some (.slice elem)) (hz : (P.info? elem).map (·.size) = some 1) (hs : By w sv zs) (k : Nat) (hk : k = min zs.length dLen) (hfit : off + k ≤ n * size)
    (hK : ∀ w', Own W0 w' (⟨e, size, .slice (some ⟨g, 0, none⟩) n cap, n, splice xs off (bs (zs.take k))⟩ :: L) → wpList P ops Q rest (a.put o.dst (goInt k)) w') : wpList P ops Q (o :: rest) a w := by
  refine wpList_plain hgd fun K hKK => ?_
  obtain ⟨w', hr, h2⟩ := run_copy_into (P := P) h t o.type elem hu hz off dLen dCap sv zs hs k hk hfit
  unfold Oper.wp
  simp [execOp, ho, resolve, invoke, builtin, hd, hx, hr, Result.andThen]
  exact hKK _ _ (hK _ h2)
theorem step_copy_into {ops : Array Oper} {o : Oper} {a : Act} {w : World} {K : Act → World → Prop} {Q : Exit → Act → World → Prop} {E : Prop} (hgd : o.guard = none) (s x : Operand) (t : TypeId)
    (ho : o.op = .call { callee := .builtin .copy, args := #[s, x], argTypes := #[t, t] }) {W0 : Base} {L : List Rw} {e size g n cap : Nat} {xs : List Value} (off dLen dCap : Nat) (sv : Value) (zs : List Int) (hd : a.eval s = .slice (some ⟨g, off, none⟩) dLen dCap) (hx : a.eval x = sv) (h : Own W0 w (⟨e, size, .slice (some ⟨g, 0, none⟩) n cap, n, xs⟩ :: L))
    (elem : TypeId) (hu : P.underlying t = some (.slice elem)) (hz : (P.info? elem).map (·.size) = some 1) (hs : By w sv zs) (k : Nat) (hk : k = min zs.length dLen) (hfit : off + k ≤ n * size)
    (hK : ∀ w', Own W0 w' (⟨e, size, .slice (some ⟨g, 0, none⟩) n cap, n, splice xs off (bs (zs.take k))⟩ :: L) → K (a.put o.dst (goInt k)) w') :
    if Region.wanted o (yielded ops a.tmps) = true then Oper.wp P o a w K Q else E := by
  have hw : Region.wanted o (yielded ops a.tmps) = true := by simp [Region.wanted, hgd]
  rw [if_pos hw]
  obtain ⟨w', hr, h2⟩ := run_copy_into (P := P) h t o.type elem hu hz off dLen dCap sv zs hs k hk hfit
  unfold Oper.wp
  simp [execOp, ho, resolve, invoke, builtin, hd, hx, hr, Result.andThen]
  exact hK _ h2
end
theorem size_u : (Tryz.prog.info? 5).map (·.size) = some 1 := by kernel_rfl
theorem flat_fill (k : Nat) (hk : 0 < k) (L : List (List Value)) (h : ∀ s ∈ L, s.length = k) (i : Nat) (hi : i < L.length) (cs : List Value) (hc : cs.length ≤ k) : splice L.flatten (i * k) cs = (L.set i (cs ++ (L[i]).drop cs.length)).flatten := by
  have hs : (cs ++ (L[i]).drop cs.length).length = k := by
    rw [List.length_append, List.length_drop, h _ (List.getElem_mem hi)]; omega
  rw [← flat_splice k hk L h i hi _ hs]
  have hl := flat_length k L h
  have hle : i * k + k ≤ L.length * k := by rw [← Nat.succ_mul]; exact Nat.mul_le_mul_right k hi
  apply List.ext_getElem?
  intro q
  rw [splice_get _ _ _ _ (by omega), splice_get _ _ _ _ (by rw [hs]; omega), hs]
  by_cases h1 : i * k ≤ q ∧ q < i * k + cs.length
  · rw [if_pos h1, if_pos ⟨h1.1, by omega⟩, List.getElem?_append_left (by omega)]
  · rw [if_neg h1]
    by_cases h2 : i * k ≤ q ∧ q < i * k + k
    · rw [if_pos h2, List.getElem?_append_right (by omega), List.getElem?_drop]
      have := flat_get k hk L h i (q - i * k) hi (by omega)
      rw [show i * k + (q - i * k) = q from by omega] at this
      rw [this]
      congr 1
      omega
    · rw [if_neg h2]
end Go.Proofs.YtkhnkidggcjfeaaGreatDoor
end
