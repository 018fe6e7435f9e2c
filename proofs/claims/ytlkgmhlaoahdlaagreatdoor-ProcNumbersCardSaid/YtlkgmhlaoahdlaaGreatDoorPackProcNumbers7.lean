/- Texts one behind the other, each in a section of its own: what calls make of memory, step by step. -/
import Derived.Test.YtlkgmhlaoahdlaaGreatDoorPackProcNumbers6
import Derived.Deep.RegionHeld3

/- do, where all goes well. -/
section
namespace Go.Proofs.YtlkgmhlaoahdlaaGreatDoor
open Go.RowKit
open Go.ChangeMaps (setBlock)
set_option linter.unusedVariables false
set_option linter.unusedSimpArgs false
set_option maxRecDepth 100000

theorem DoL.ret {w0 w w' : World} {S : Blocks} {L : List Rw} {t : Nat} {T : Tr} {R : Tr → Prop} {r : Value} {e : Ending} (h : DoL w0 S L t T w R r e w') (r' : Value) : e = .returned r ∧ DoL w0 S L t T w R r' (.returned r') w' := by
  obtain ⟨S', L', T', h1, h2, h3, h4, h5, h6⟩ := h
  exact ⟨h1, S', L', T', rfl, h2, h3, h4, h5, h6⟩
theorem one_box {w0 w : World} {S : Blocks} {L : List Rw} {t : Nat} {T : Tr} (hO : Own ⟨w0, S⟩ w L) (H : Tree S (Pc L) t T) (P : Obj) : ∃ w1 S2, w1 = w.alloc P ∧ w1.heap.size = w.heap.size + 1 ∧ Own ⟨w0, S2⟩ w1 L ∧ Tree S2 (Pc L) t T ∧ (w.heap.size, P) ∈ S2 ∧ (∀ b x, (b, x) ∈ S → (b, x) ∈ S2) ∧ (∀ b x, (b, x) ∈ S → b < w.heap.size) ∧ Below w.heap.size w w1 :=
  ⟨_, (w.heap.size, P) :: S, rfl, by simp, hO.newB P, H.mono (fun b x _ hx => List.mem_cons_of_mem _ hx) (fun _ _ h => h), List.mem_cons_self .., fun b x hb => List.mem_cons_of_mem _ hb, fun b x hb => (hO.atLt hb).2, (Below.refl _ w).alloc (Nat.le_refl _) _⟩
set_option maxHeartbeats 4000000 in
theorem do_grow0 {w0 w : World} {S : Blocks} {L : List Rw} {t : Nat} {T : Tr} (hO : Own ⟨w0, S⟩ w L) (H : Tree S (Pc L) t T) (hm : Mx w) (p q : ByteArray) (hp : p.size ≤ maxLen) {va : Option Addr} {vn vc : Nat} (hvn : vn ≤ 3500)
    {j : Int} {nd : Nd} {k : Nat} {z : List UInt8} (hc : placeT T p.data.toList = (0, some (j, nd, z))) (ha : At T j nd k) (hx : look nd.kids (toB z) = none) {R : Tr → Prop} 
    (hcall : ∀ S' w', Own ⟨w0, S'⟩ w' L → Tree S' (Pc L) t T → (∀ b x, (b, x) ∈ S → (b, x) ∈ S') → Mx w' → Calls Tryz.prog 92 #[.pointer (some ⟨t, 0, none⟩), .agg #[.pointer (some ⟨nd.b, 0, none⟩), .string (toB z)], .agg (opL 0 p q (.slice va vn vc)).toArray] w' (DoL w0 S' L t T w' R (.tuple #[]))) :
    Calls Tryz.prog 56 #[.pointer (some ⟨t, 0, none⟩), .agg (opL 0 p q (.slice va vn vc)).toArray] w (DoL w0 S L t T w R (.int .i64 0)) := by
  obtain ⟨w1, S2, hw1, hsz, hO2, H1, m1, hsub, hlt, hB1⟩ := one_box hO H (.cells #[.int .i64 0, .string p, .string q, .slice va vn vc] 63)
  have o0 : w1.cell? ⟨w.heap.size, 0, none⟩ = some (.int .i64 0) := by rw [hO2.cellB m1]; rfl
  have o1 : w1.cell? ⟨w.heap.size, 1, none⟩ = some (.string p) := by rw [hO2.cellB m1]; rfl
  have hpl := place_any (H1.at_.inWorld hO2) H.good p hp (hm.later hB1)
  rw [hc] at hpl
  have HO2 := Lib.hid hO2
  have hgen : ∀ w2, Own ⟨w0, S2⟩ w2 L → w.heap.size ≤ w2.heap.size → Mx w2 → (w2.alloc (boxP nd (toB z))).cell? ⟨w.heap.size, 3, none⟩ = some (.slice va vn vc) ∧
      ((w2.alloc (boxP nd (toB z))).drew.cell? ⟨w2.heap.size, 0, none⟩ = some (.pointer (some ⟨nd.b, 0, none⟩)) ∧ (w2.alloc (boxP nd (toB z))).drew.cell? ⟨w2.heap.size, 1, none⟩ = some (.string (toB z))) ∧
      ((w2.alloc (boxP nd (toB z))).drew.cell? ⟨w.heap.size, 0, none⟩ = some (.int .i64 0) ∧ (w2.alloc (boxP nd (toB z))).drew.cell? ⟨w.heap.size, 1, none⟩ = some (.string p) ∧ (w2.alloc (boxP nd (toB z))).drew.cell? ⟨w.heap.size, 2, none⟩ = some (.string q) ∧ (w2.alloc (boxP nd (toB z))).drew.cell? ⟨w.heap.size, 3, none⟩ = some (.slice va vn vc)) ∧
      (w2.alloc (boxP nd (toB z))).drew.cell? ⟨nd.b, 0, none⟩ = some (.map (some k)) ∧
      (Instr.lookup 28 (.map (some k)) (.string (toB z)) true).run Tryz.prog (w2.alloc (boxP nd (toB z))).drew = .ok (.tuple #[.int .i64 0, .bool false]) (w2.alloc (boxP nd (toB z))).drew ∧
      Calls Tryz.prog 92 #[.pointer (some ⟨t, 0, none⟩), .agg #[.pointer (some ⟨nd.b, 0, none⟩), .string (toB z)], .agg (opL 0 p q (.slice va vn vc)).toArray] (w2.alloc (boxP nd (toB z))).drew (fun e w' => e = .returned (.tuple #[]) ∧ DoL w0 S L t T w R (.int .i64 0) (.returned (.int .i64 0)) w') := by
    intro w2 h2 h3 hm2
    have h4 := h2.alloc (boxP nd (toB z))
    have h5 := h4.drew
    have b0 : (w2.alloc (boxP nd (toB z))).drew.cell? ⟨w2.heap.size, 0, none⟩ = some (.pointer (some ⟨nd.b, 0, none⟩)) := by show (w2.alloc _).cell? _ = _; rw [World.cell?_alloc_new]; rfl
    have b1 : (w2.alloc (boxP nd (toB z))).drew.cell? ⟨w2.heap.size, 1, none⟩ = some (.string (toB z)) := by show (w2.alloc _).cell? _ = _; rw [World.cell?_alloc_new]; rfl
    have hNW := (H1.at_.inWorld h5).node _ (look_mem ha.there)
    obtain ⟨c0, _, _⟩ := hNW.at0
    rw [ha.dir] at c0
    have hl := hNW.look ha.dir (toB z)
    rw [hx] at hl
    dsimp only [Option.getD_none, Option.isSome_none] at hl
    refine ⟨by rw [h4.cellB m1]; rfl, ⟨b0, b1⟩, ⟨by rw [h5.cellB m1]; rfl, by rw [h5.cellB m1]; rfl, by rw [h5.cellB m1]; rfl, by rw [h5.cellB m1]; rfl⟩, c0, hl, (hcall S2 _ h5 H1 hsub (hm2.later (((Below.refl _ w2).alloc (Nat.le_refl _) _).drew))).mono fun e w' hd => ?_⟩
    obtain ⟨e1, hd2⟩ := hd.ret (.int .i64 0)
    subst e1
    exact ⟨rfl, hd2.more hsub (by show _ ≤ (w2.alloc _).heap.size; simp; omega) hlt⟩
  have hsz1 : w.heap.size ≤ w1.heap.size := by omega
  have hm1 := hm.later hB1
  rw [hw1] at o0 o1 hpl
  clear hO H hO2 H1 m1 hsub hlt hsz hc hm hB1 hcall ha hx
  dsimp only [placeL] at hpl
  go_enter Tryz.func56, Tryz.ntmps56
  go_wp2_with fail
  refine hpl.mono ?_
  rintro e w2 ⟨rfl, hb⟩
  rw [← hw1] at hb
  have hO3 := HO2.out.later hb
  obtain ⟨x3, ⟨b0, b1⟩, ⟨y0, y1, y2, y3⟩, n0, hl, hcl⟩ := hgen w2 hO3 (Nat.le_trans hsz1 hb.size) (hm1.later hb)
  clear o0 o1 hpl hw1 hb hO3 hgen hsz1 HO2 hm1
  go_wp2_with fail
  go_region
  go_wp2_with fail
  refine hcl.mono ?_
  rintro e w3 ⟨rfl, hD⟩
  have HD := Lib.hid hD
  clear hD hcl
  go_wp2_with fail
  go_ret
  exact HD.out
set_option maxHeartbeats 4000000 in
theorem do_grow2 {w0 w : World} {S : Blocks} {L : List Rw} {t : Nat} {T : Tr} (hO : Own ⟨w0, S⟩ w L) (H : Tree S (Pc L) t T) (hm : Mx w) (p q : ByteArray) (hp : p.size ≤ maxLen) {va : Option Addr} {vn vc : Nat} (hvn : vn ≤ 3500)
    {j : Int} {nd : Nd} {k : Nat} {z : List UInt8} (hc : placeT T p.data.toList = (0, some (j, nd, z))) (ha : At T j nd k) (hx : look nd.kids (toB z) = none) {R : Tr → Prop} 
    (hcall : ∀ S' w', Own ⟨w0, S'⟩ w' L → Tree S' (Pc L) t T → (∀ b x, (b, x) ∈ S → (b, x) ∈ S') → Mx w' → Calls Tryz.prog 92 #[.pointer (some ⟨t, 0, none⟩), .agg #[.pointer (some ⟨nd.b, 0, none⟩), .string (toB z)], .agg (opL 2 p q (.slice va vn vc)).toArray] w' (DoL w0 S' L t T w' R (.tuple #[]))) :
    Calls Tryz.prog 56 #[.pointer (some ⟨t, 0, none⟩), .agg (opL 2 p q (.slice va vn vc)).toArray] w (DoL w0 S L t T w R (.int .i64 0)) := by
  obtain ⟨w1, S2, hw1, hsz, hO2, H1, m1, hsub, hlt, hB1⟩ := one_box hO H (.cells #[.int .i64 2, .string p, .string q, .slice va vn vc] 63)
  have o0 : w1.cell? ⟨w.heap.size, 0, none⟩ = some (.int .i64 2) := by rw [hO2.cellB m1]; rfl
  have o1 : w1.cell? ⟨w.heap.size, 1, none⟩ = some (.string p) := by rw [hO2.cellB m1]; rfl
  have hpl := place_any (H1.at_.inWorld hO2) H.good p hp (hm.later hB1)
  rw [hc] at hpl
  have HO2 := Lib.hid hO2
  have hgen : ∀ w2, Own ⟨w0, S2⟩ w2 L → w.heap.size ≤ w2.heap.size → Mx w2 → (w2.alloc (boxP nd (toB z))).cell? ⟨w.heap.size, 3, none⟩ = some (.slice va vn vc) ∧
      ((w2.alloc (boxP nd (toB z))).drew.cell? ⟨w2.heap.size, 0, none⟩ = some (.pointer (some ⟨nd.b, 0, none⟩)) ∧ (w2.alloc (boxP nd (toB z))).drew.cell? ⟨w2.heap.size, 1, none⟩ = some (.string (toB z))) ∧
      ((w2.alloc (boxP nd (toB z))).drew.cell? ⟨w.heap.size, 0, none⟩ = some (.int .i64 2) ∧ (w2.alloc (boxP nd (toB z))).drew.cell? ⟨w.heap.size, 1, none⟩ = some (.string p) ∧ (w2.alloc (boxP nd (toB z))).drew.cell? ⟨w.heap.size, 2, none⟩ = some (.string q) ∧ (w2.alloc (boxP nd (toB z))).drew.cell? ⟨w.heap.size, 3, none⟩ = some (.slice va vn vc)) ∧
      (w2.alloc (boxP nd (toB z))).drew.cell? ⟨nd.b, 0, none⟩ = some (.map (some k)) ∧
      (Instr.lookup 28 (.map (some k)) (.string (toB z)) true).run Tryz.prog (w2.alloc (boxP nd (toB z))).drew = .ok (.tuple #[.int .i64 0, .bool false]) (w2.alloc (boxP nd (toB z))).drew ∧
      Calls Tryz.prog 92 #[.pointer (some ⟨t, 0, none⟩), .agg #[.pointer (some ⟨nd.b, 0, none⟩), .string (toB z)], .agg (opL 2 p q (.slice va vn vc)).toArray] (w2.alloc (boxP nd (toB z))).drew (fun e w' => e = .returned (.tuple #[]) ∧ DoL w0 S L t T w R (.int .i64 0) (.returned (.int .i64 0)) w') := by
    intro w2 h2 h3 hm2
    have h4 := h2.alloc (boxP nd (toB z))
    have h5 := h4.drew
    have b0 : (w2.alloc (boxP nd (toB z))).drew.cell? ⟨w2.heap.size, 0, none⟩ = some (.pointer (some ⟨nd.b, 0, none⟩)) := by show (w2.alloc _).cell? _ = _; rw [World.cell?_alloc_new]; rfl
    have b1 : (w2.alloc (boxP nd (toB z))).drew.cell? ⟨w2.heap.size, 1, none⟩ = some (.string (toB z)) := by show (w2.alloc _).cell? _ = _; rw [World.cell?_alloc_new]; rfl
    have hNW := (H1.at_.inWorld h5).node _ (look_mem ha.there)
    obtain ⟨c0, _, _⟩ := hNW.at0
    rw [ha.dir] at c0
    have hl := hNW.look ha.dir (toB z)
    rw [hx] at hl
    dsimp only [Option.getD_none, Option.isSome_none] at hl
    refine ⟨by rw [h4.cellB m1]; rfl, ⟨b0, b1⟩, ⟨by rw [h5.cellB m1]; rfl, by rw [h5.cellB m1]; rfl, by rw [h5.cellB m1]; rfl, by rw [h5.cellB m1]; rfl⟩, c0, hl, (hcall S2 _ h5 H1 hsub (hm2.later (((Below.refl _ w2).alloc (Nat.le_refl _) _).drew))).mono fun e w' hd => ?_⟩
    obtain ⟨e1, hd2⟩ := hd.ret (.int .i64 0)
    subst e1
    exact ⟨rfl, hd2.more hsub (by show _ ≤ (w2.alloc _).heap.size; simp; omega) hlt⟩
  have hsz1 : w.heap.size ≤ w1.heap.size := by omega
  have hm1 := hm.later hB1
  rw [hw1] at o0 o1 hpl
  clear hO H hO2 H1 m1 hsub hlt hsz hc hm hB1 hcall ha hx
  dsimp only [placeL] at hpl
  go_enter Tryz.func56, Tryz.ntmps56
  go_wp2_with fail
  refine hpl.mono ?_
  rintro e w2 ⟨rfl, hb⟩
  rw [← hw1] at hb
  have hO3 := HO2.out.later hb
  obtain ⟨x3, ⟨b0, b1⟩, ⟨y0, y1, y2, y3⟩, n0, hl, hcl⟩ := hgen w2 hO3 (Nat.le_trans hsz1 hb.size) (hm1.later hb)
  clear o0 o1 hpl hw1 hb hO3 hgen hsz1 HO2 hm1
  go_wp2_with fail
  go_region
  go_wp2_with fail
  refine hcl.mono ?_
  rintro e w3 ⟨rfl, hD⟩
  have HD := Lib.hid hD
  clear hD hcl
  go_wp2_with fail
  go_ret
  exact HD.out
set_option maxHeartbeats 4000000 in
theorem do_turn3 {w0 w : World} {S : Blocks} {L : List Rw} {t : Nat} {T : Tr} (hO : Own ⟨w0, S⟩ w L) (H : Tree S (Pc L) t T) (hm : Mx w) (p q : ByteArray) (hp : p.size ≤ maxLen) {va : Option Addr} {vn vc : Nat} (hvn : vn ≤ 3500)
    {j : Int} {nd : Nd} {k : Nat} {z : List UInt8} (hc : placeT T p.data.toList = (0, some (j, nd, z))) (ha : At T j nd k) {i : Int} {f : Nd} (hx : look nd.kids (toB z) = some i) (g : Fl T i f) {R : Tr → Prop} {c : Int}
    (hcall : ∀ S' w', Own ⟨w0, S'⟩ w' L → Tree S' (Pc L) t T → (∀ b x, (b, x) ∈ S → (b, x) ∈ S') → Mx w' → Calls Tryz.prog 95 #[.pointer (some ⟨t, 0, none⟩), .agg #[.pointer (some ⟨nd.b, 0, none⟩), .string (toB z)], .int .i64 i, .agg (opL 3 p q (.slice va vn vc)).toArray] w' (DoL w0 S' L t T w' R (.int .i64 c))) :
    Calls Tryz.prog 56 #[.pointer (some ⟨t, 0, none⟩), .agg (opL 3 p q (.slice va vn vc)).toArray] w (DoL w0 S L t T w R (.int .i64 c)) := by
  obtain ⟨w1, S2, hw1, hsz, hO2, H1, m1, hsub, hlt, hB1⟩ := one_box hO H (.cells #[.int .i64 3, .string p, .string q, .slice va vn vc] 63)
  have o0 : w1.cell? ⟨w.heap.size, 0, none⟩ = some (.int .i64 3) := by rw [hO2.cellB m1]; rfl
  have o1 : w1.cell? ⟨w.heap.size, 1, none⟩ = some (.string p) := by rw [hO2.cellB m1]; rfl
  have hpl := place_any (H1.at_.inWorld hO2) H.good p hp (hm.later hB1)
  rw [hc] at hpl
  have HO2 := Lib.hid hO2
  have hgen : ∀ w2, Own ⟨w0, S2⟩ w2 L → w.heap.size ≤ w2.heap.size → Mx w2 → (w2.alloc (boxP nd (toB z))).cell? ⟨w.heap.size, 3, none⟩ = some (.slice va vn vc) ∧
      ((w2.alloc (boxP nd (toB z))).drew.cell? ⟨w2.heap.size, 0, none⟩ = some (.pointer (some ⟨nd.b, 0, none⟩)) ∧ (w2.alloc (boxP nd (toB z))).drew.cell? ⟨w2.heap.size, 1, none⟩ = some (.string (toB z))) ∧
      ((w2.alloc (boxP nd (toB z))).drew.cell? ⟨w.heap.size, 0, none⟩ = some (.int .i64 3) ∧ (w2.alloc (boxP nd (toB z))).drew.cell? ⟨w.heap.size, 1, none⟩ = some (.string p) ∧ (w2.alloc (boxP nd (toB z))).drew.cell? ⟨w.heap.size, 2, none⟩ = some (.string q) ∧ (w2.alloc (boxP nd (toB z))).drew.cell? ⟨w.heap.size, 3, none⟩ = some (.slice va vn vc)) ∧
      (w2.alloc (boxP nd (toB z))).drew.cell? ⟨nd.b, 0, none⟩ = some (.map (some k)) ∧
      ((Instr.lookup 28 (.map (some k)) (.string (toB z)) true).run Tryz.prog (w2.alloc (boxP nd (toB z))).drew = .ok (.tuple #[.int .i64 i, .bool true]) (w2.alloc (boxP nd (toB z))).drew ∧ (w2.alloc (boxP nd (toB z))).drew.cell? ⟨t, 2, none⟩ = some (.map (some T.bm)) ∧ (Instr.lookup 79 (.map (some T.bm)) (.int .i64 i) false).run Tryz.prog (w2.alloc (boxP nd (toB z))).drew = .ok (.pointer (some ⟨f.b, 0, none⟩)) (w2.alloc (boxP nd (toB z))).drew ∧ Calls Tryz.prog 94 #[.pointer (some ⟨f.b, 0, none⟩)] (w2.alloc (boxP nd (toB z))).drew (fun e w' => e = .returned (.bool false) ∧ (w2.alloc (boxP nd (toB z))).drew = w')) ∧
      Calls Tryz.prog 95 #[.pointer (some ⟨t, 0, none⟩), .agg #[.pointer (some ⟨nd.b, 0, none⟩), .string (toB z)], .int .i64 i, .agg (opL 3 p q (.slice va vn vc)).toArray] (w2.alloc (boxP nd (toB z))).drew (fun e w' => e = .returned (.int .i64 c) ∧ DoL w0 S L t T w R (.int .i64 c) (.returned (.int .i64 c)) w') := by
    intro w2 h2 h3 hm2
    have h4 := h2.alloc (boxP nd (toB z))
    have h5 := h4.drew
    have b0 : (w2.alloc (boxP nd (toB z))).drew.cell? ⟨w2.heap.size, 0, none⟩ = some (.pointer (some ⟨nd.b, 0, none⟩)) := by show (w2.alloc _).cell? _ = _; rw [World.cell?_alloc_new]; rfl
    have b1 : (w2.alloc (boxP nd (toB z))).drew.cell? ⟨w2.heap.size, 1, none⟩ = some (.string (toB z)) := by show (w2.alloc _).cell? _ = _; rw [World.cell?_alloc_new]; rfl
    have hNW := (H1.at_.inWorld h5).node _ (look_mem ha.there)
    obtain ⟨c0, _, _⟩ := hNW.at0
    rw [ha.dir] at c0
    have hl := hNW.look ha.dir (toB z)
    rw [hx] at hl
    dsimp only [Option.getD_some, Option.isSome_some] at hl
    have hl2 := (H1.at_.inWorld h5).look i
    rw [g.there] at hl2
    dsimp only [ptrOf] at hl2
    have hdir := dir_any ((H1.at_.inWorld h5).node _ (look_mem g.there))
    rw [show f.k.isSome = false by rw [g.file]; rfl] at hdir
    refine ⟨by rw [h4.cellB m1]; rfl, ⟨b0, b1⟩, ⟨by rw [h5.cellB m1]; rfl, by rw [h5.cellB m1]; rfl, by rw [h5.cellB m1]; rfl, by rw [h5.cellB m1]; rfl⟩, c0, ⟨hl, (H1.at_.inWorld h5).at0.2.2, hl2, hdir⟩, (hcall S2 _ h5 H1 hsub (hm2.later (((Below.refl _ w2).alloc (Nat.le_refl _) _).drew))).mono fun e w' hd => ?_⟩
    obtain ⟨e1, hd2⟩ := hd.ret (.int .i64 c)
    subst e1
    exact ⟨rfl, hd2.more hsub (by show _ ≤ (w2.alloc _).heap.size; simp; omega) hlt⟩
  have hsz1 : w.heap.size ≤ w1.heap.size := by omega
  have hm1 := hm.later hB1
  rw [hw1] at o0 o1 hpl
  clear hO H hO2 H1 m1 hsub hlt hsz hc hm hB1 hcall ha hx g
  dsimp only [placeL] at hpl
  go_enter Tryz.func56, Tryz.ntmps56
  go_wp2_with fail
  refine hpl.mono ?_
  rintro e w2 ⟨rfl, hb⟩
  rw [← hw1] at hb
  have hO3 := HO2.out.later hb
  obtain ⟨x3, ⟨b0, b1⟩, ⟨y0, y1, y2, y3⟩, n0, ⟨hl, t2, hl2, hdir⟩, hcl⟩ := hgen w2 hO3 (Nat.le_trans hsz1 hb.size) (hm1.later hb)
  clear o0 o1 hpl hw1 hb hO3 hgen hsz1 HO2 hm1
  go_wp2_with fail
  go_region
  go_wp2_with (go_at_call 94; refine hdir.mono ?_; rintro e w' ⟨rfl, rfl⟩)
  refine hcl.mono ?_
  rintro e w3 ⟨rfl, hD⟩
  have HD := Lib.hid hD
  clear hD hcl
  go_wp2_with fail
  go_ret
  exact HD.out
set_option maxHeartbeats 4000000 in
theorem do_turn4 {w0 w : World} {S : Blocks} {L : List Rw} {t : Nat} {T : Tr} (hO : Own ⟨w0, S⟩ w L) (H : Tree S (Pc L) t T) (hm : Mx w) (p q : ByteArray) (hp : p.size ≤ maxLen) {va : Option Addr} {vn vc : Nat} (hvn : vn ≤ 3500)
    {j : Int} {nd : Nd} {k : Nat} {z : List UInt8} (hc : placeT T p.data.toList = (0, some (j, nd, z))) (ha : At T j nd k) {i : Int} {f : Nd} (hx : look nd.kids (toB z) = some i) (g : Fl T i f) {R : Tr → Prop} {c : Int}
    (hcall : ∀ S' w', Own ⟨w0, S'⟩ w' L → Tree S' (Pc L) t T → (∀ b x, (b, x) ∈ S → (b, x) ∈ S') → Mx w' → Calls Tryz.prog 95 #[.pointer (some ⟨t, 0, none⟩), .agg #[.pointer (some ⟨nd.b, 0, none⟩), .string (toB z)], .int .i64 i, .agg (opL 4 p q (.slice va vn vc)).toArray] w' (DoL w0 S' L t T w' R (.int .i64 c))) :
    Calls Tryz.prog 56 #[.pointer (some ⟨t, 0, none⟩), .agg (opL 4 p q (.slice va vn vc)).toArray] w (DoL w0 S L t T w R (.int .i64 c)) := by
  obtain ⟨w1, S2, hw1, hsz, hO2, H1, m1, hsub, hlt, hB1⟩ := one_box hO H (.cells #[.int .i64 4, .string p, .string q, .slice va vn vc] 63)
  have o0 : w1.cell? ⟨w.heap.size, 0, none⟩ = some (.int .i64 4) := by rw [hO2.cellB m1]; rfl
  have o1 : w1.cell? ⟨w.heap.size, 1, none⟩ = some (.string p) := by rw [hO2.cellB m1]; rfl
  have hpl := place_any (H1.at_.inWorld hO2) H.good p hp (hm.later hB1)
  rw [hc] at hpl
  have HO2 := Lib.hid hO2
  have hgen : ∀ w2, Own ⟨w0, S2⟩ w2 L → w.heap.size ≤ w2.heap.size → Mx w2 → (w2.alloc (boxP nd (toB z))).cell? ⟨w.heap.size, 3, none⟩ = some (.slice va vn vc) ∧
      ((w2.alloc (boxP nd (toB z))).drew.cell? ⟨w2.heap.size, 0, none⟩ = some (.pointer (some ⟨nd.b, 0, none⟩)) ∧ (w2.alloc (boxP nd (toB z))).drew.cell? ⟨w2.heap.size, 1, none⟩ = some (.string (toB z))) ∧
      ((w2.alloc (boxP nd (toB z))).drew.cell? ⟨w.heap.size, 0, none⟩ = some (.int .i64 4) ∧ (w2.alloc (boxP nd (toB z))).drew.cell? ⟨w.heap.size, 1, none⟩ = some (.string p) ∧ (w2.alloc (boxP nd (toB z))).drew.cell? ⟨w.heap.size, 2, none⟩ = some (.string q) ∧ (w2.alloc (boxP nd (toB z))).drew.cell? ⟨w.heap.size, 3, none⟩ = some (.slice va vn vc)) ∧
      (w2.alloc (boxP nd (toB z))).drew.cell? ⟨nd.b, 0, none⟩ = some (.map (some k)) ∧
      ((Instr.lookup 28 (.map (some k)) (.string (toB z)) true).run Tryz.prog (w2.alloc (boxP nd (toB z))).drew = .ok (.tuple #[.int .i64 i, .bool true]) (w2.alloc (boxP nd (toB z))).drew ∧ (w2.alloc (boxP nd (toB z))).drew.cell? ⟨t, 2, none⟩ = some (.map (some T.bm)) ∧ (Instr.lookup 79 (.map (some T.bm)) (.int .i64 i) false).run Tryz.prog (w2.alloc (boxP nd (toB z))).drew = .ok (.pointer (some ⟨f.b, 0, none⟩)) (w2.alloc (boxP nd (toB z))).drew ∧ Calls Tryz.prog 94 #[.pointer (some ⟨f.b, 0, none⟩)] (w2.alloc (boxP nd (toB z))).drew (fun e w' => e = .returned (.bool false) ∧ (w2.alloc (boxP nd (toB z))).drew = w')) ∧
      Calls Tryz.prog 95 #[.pointer (some ⟨t, 0, none⟩), .agg #[.pointer (some ⟨nd.b, 0, none⟩), .string (toB z)], .int .i64 i, .agg (opL 4 p q (.slice va vn vc)).toArray] (w2.alloc (boxP nd (toB z))).drew (fun e w' => e = .returned (.int .i64 c) ∧ DoL w0 S L t T w R (.int .i64 c) (.returned (.int .i64 c)) w') := by
    intro w2 h2 h3 hm2
    have h4 := h2.alloc (boxP nd (toB z))
    have h5 := h4.drew
    have b0 : (w2.alloc (boxP nd (toB z))).drew.cell? ⟨w2.heap.size, 0, none⟩ = some (.pointer (some ⟨nd.b, 0, none⟩)) := by show (w2.alloc _).cell? _ = _; rw [World.cell?_alloc_new]; rfl
    have b1 : (w2.alloc (boxP nd (toB z))).drew.cell? ⟨w2.heap.size, 1, none⟩ = some (.string (toB z)) := by show (w2.alloc _).cell? _ = _; rw [World.cell?_alloc_new]; rfl
    have hNW := (H1.at_.inWorld h5).node _ (look_mem ha.there)
    obtain ⟨c0, _, _⟩ := hNW.at0
    rw [ha.dir] at c0
    have hl := hNW.look ha.dir (toB z)
    rw [hx] at hl
    dsimp only [Option.getD_some, Option.isSome_some] at hl
    have hl2 := (H1.at_.inWorld h5).look i
    rw [g.there] at hl2
    dsimp only [ptrOf] at hl2
    have hdir := dir_any ((H1.at_.inWorld h5).node _ (look_mem g.there))
    rw [show f.k.isSome = false by rw [g.file]; rfl] at hdir
    refine ⟨by rw [h4.cellB m1]; rfl, ⟨b0, b1⟩, ⟨by rw [h5.cellB m1]; rfl, by rw [h5.cellB m1]; rfl, by rw [h5.cellB m1]; rfl, by rw [h5.cellB m1]; rfl⟩, c0, ⟨hl, (H1.at_.inWorld h5).at0.2.2, hl2, hdir⟩, (hcall S2 _ h5 H1 hsub (hm2.later (((Below.refl _ w2).alloc (Nat.le_refl _) _).drew))).mono fun e w' hd => ?_⟩
    obtain ⟨e1, hd2⟩ := hd.ret (.int .i64 c)
    subst e1
    exact ⟨rfl, hd2.more hsub (by show _ ≤ (w2.alloc _).heap.size; simp; omega) hlt⟩
  have hsz1 : w.heap.size ≤ w1.heap.size := by omega
  have hm1 := hm.later hB1
  rw [hw1] at o0 o1 hpl
  clear hO H hO2 H1 m1 hsub hlt hsz hc hm hB1 hcall ha hx g
  dsimp only [placeL] at hpl
  go_enter Tryz.func56, Tryz.ntmps56
  go_wp2_with fail
  refine hpl.mono ?_
  rintro e w2 ⟨rfl, hb⟩
  rw [← hw1] at hb
  have hO3 := HO2.out.later hb
  obtain ⟨x3, ⟨b0, b1⟩, ⟨y0, y1, y2, y3⟩, n0, ⟨hl, t2, hl2, hdir⟩, hcl⟩ := hgen w2 hO3 (Nat.le_trans hsz1 hb.size) (hm1.later hb)
  clear o0 o1 hpl hw1 hb hO3 hgen hsz1 HO2 hm1
  go_wp2_with fail
  go_region
  go_wp2_with (go_at_call 94; refine hdir.mono ?_; rintro e w' ⟨rfl, rfl⟩)
  refine hcl.mono ?_
  rintro e w3 ⟨rfl, hD⟩
  have HD := Lib.hid hD
  clear hD hcl
  go_wp2_with fail
  go_ret
  exact HD.out
set_option maxHeartbeats 4000000 in
theorem do_turn5 {w0 w : World} {S : Blocks} {L : List Rw} {t : Nat} {T : Tr} (hO : Own ⟨w0, S⟩ w L) (H : Tree S (Pc L) t T) (hm : Mx w) (p q : ByteArray) (hp : p.size ≤ maxLen) {va : Option Addr} {vn vc : Nat} (hvn : vn ≤ 3500)
    {j : Int} {nd : Nd} {k : Nat} {z : List UInt8} (hc : placeT T p.data.toList = (0, some (j, nd, z))) (ha : At T j nd k) {i : Int} {f : Nd} (hx : look nd.kids (toB z) = some i) (g : Fl T i f) {R : Tr → Prop} {c : Int}
    (hcall : ∀ S' w', Own ⟨w0, S'⟩ w' L → Tree S' (Pc L) t T → (∀ b x, (b, x) ∈ S → (b, x) ∈ S') → Mx w' → Calls Tryz.prog 95 #[.pointer (some ⟨t, 0, none⟩), .agg #[.pointer (some ⟨nd.b, 0, none⟩), .string (toB z)], .int .i64 i, .agg (opL 5 p q (.slice va vn vc)).toArray] w' (DoL w0 S' L t T w' R (.int .i64 c))) :
    Calls Tryz.prog 56 #[.pointer (some ⟨t, 0, none⟩), .agg (opL 5 p q (.slice va vn vc)).toArray] w (DoL w0 S L t T w R (.int .i64 c)) := by
  obtain ⟨w1, S2, hw1, hsz, hO2, H1, m1, hsub, hlt, hB1⟩ := one_box hO H (.cells #[.int .i64 5, .string p, .string q, .slice va vn vc] 63)
  have o0 : w1.cell? ⟨w.heap.size, 0, none⟩ = some (.int .i64 5) := by rw [hO2.cellB m1]; rfl
  have o1 : w1.cell? ⟨w.heap.size, 1, none⟩ = some (.string p) := by rw [hO2.cellB m1]; rfl
  have hpl := place_any (H1.at_.inWorld hO2) H.good p hp (hm.later hB1)
  rw [hc] at hpl
  have HO2 := Lib.hid hO2
  have hgen : ∀ w2, Own ⟨w0, S2⟩ w2 L → w.heap.size ≤ w2.heap.size → Mx w2 → (w2.alloc (boxP nd (toB z))).cell? ⟨w.heap.size, 3, none⟩ = some (.slice va vn vc) ∧
      ((w2.alloc (boxP nd (toB z))).drew.cell? ⟨w2.heap.size, 0, none⟩ = some (.pointer (some ⟨nd.b, 0, none⟩)) ∧ (w2.alloc (boxP nd (toB z))).drew.cell? ⟨w2.heap.size, 1, none⟩ = some (.string (toB z))) ∧
      ((w2.alloc (boxP nd (toB z))).drew.cell? ⟨w.heap.size, 0, none⟩ = some (.int .i64 5) ∧ (w2.alloc (boxP nd (toB z))).drew.cell? ⟨w.heap.size, 1, none⟩ = some (.string p) ∧ (w2.alloc (boxP nd (toB z))).drew.cell? ⟨w.heap.size, 2, none⟩ = some (.string q) ∧ (w2.alloc (boxP nd (toB z))).drew.cell? ⟨w.heap.size, 3, none⟩ = some (.slice va vn vc)) ∧
      (w2.alloc (boxP nd (toB z))).drew.cell? ⟨nd.b, 0, none⟩ = some (.map (some k)) ∧
      ((Instr.lookup 28 (.map (some k)) (.string (toB z)) true).run Tryz.prog (w2.alloc (boxP nd (toB z))).drew = .ok (.tuple #[.int .i64 i, .bool true]) (w2.alloc (boxP nd (toB z))).drew ∧ (w2.alloc (boxP nd (toB z))).drew.cell? ⟨t, 2, none⟩ = some (.map (some T.bm)) ∧ (Instr.lookup 79 (.map (some T.bm)) (.int .i64 i) false).run Tryz.prog (w2.alloc (boxP nd (toB z))).drew = .ok (.pointer (some ⟨f.b, 0, none⟩)) (w2.alloc (boxP nd (toB z))).drew ∧ Calls Tryz.prog 94 #[.pointer (some ⟨f.b, 0, none⟩)] (w2.alloc (boxP nd (toB z))).drew (fun e w' => e = .returned (.bool false) ∧ (w2.alloc (boxP nd (toB z))).drew = w')) ∧
      Calls Tryz.prog 95 #[.pointer (some ⟨t, 0, none⟩), .agg #[.pointer (some ⟨nd.b, 0, none⟩), .string (toB z)], .int .i64 i, .agg (opL 5 p q (.slice va vn vc)).toArray] (w2.alloc (boxP nd (toB z))).drew (fun e w' => e = .returned (.int .i64 c) ∧ DoL w0 S L t T w R (.int .i64 c) (.returned (.int .i64 c)) w') := by
    intro w2 h2 h3 hm2
    have h4 := h2.alloc (boxP nd (toB z))
    have h5 := h4.drew
    have b0 : (w2.alloc (boxP nd (toB z))).drew.cell? ⟨w2.heap.size, 0, none⟩ = some (.pointer (some ⟨nd.b, 0, none⟩)) := by show (w2.alloc _).cell? _ = _; rw [World.cell?_alloc_new]; rfl
    have b1 : (w2.alloc (boxP nd (toB z))).drew.cell? ⟨w2.heap.size, 1, none⟩ = some (.string (toB z)) := by show (w2.alloc _).cell? _ = _; rw [World.cell?_alloc_new]; rfl
    have hNW := (H1.at_.inWorld h5).node _ (look_mem ha.there)
    obtain ⟨c0, _, _⟩ := hNW.at0
    rw [ha.dir] at c0
    have hl := hNW.look ha.dir (toB z)
    rw [hx] at hl
    dsimp only [Option.getD_some, Option.isSome_some] at hl
    have hl2 := (H1.at_.inWorld h5).look i
    rw [g.there] at hl2
    dsimp only [ptrOf] at hl2
    have hdir := dir_any ((H1.at_.inWorld h5).node _ (look_mem g.there))
    rw [show f.k.isSome = false by rw [g.file]; rfl] at hdir
    refine ⟨by rw [h4.cellB m1]; rfl, ⟨b0, b1⟩, ⟨by rw [h5.cellB m1]; rfl, by rw [h5.cellB m1]; rfl, by rw [h5.cellB m1]; rfl, by rw [h5.cellB m1]; rfl⟩, c0, ⟨hl, (H1.at_.inWorld h5).at0.2.2, hl2, hdir⟩, (hcall S2 _ h5 H1 hsub (hm2.later (((Below.refl _ w2).alloc (Nat.le_refl _) _).drew))).mono fun e w' hd => ?_⟩
    obtain ⟨e1, hd2⟩ := hd.ret (.int .i64 c)
    subst e1
    exact ⟨rfl, hd2.more hsub (by show _ ≤ (w2.alloc _).heap.size; simp; omega) hlt⟩
  have hsz1 : w.heap.size ≤ w1.heap.size := by omega
  have hm1 := hm.later hB1
  rw [hw1] at o0 o1 hpl
  clear hO H hO2 H1 m1 hsub hlt hsz hc hm hB1 hcall ha hx g
  dsimp only [placeL] at hpl
  go_enter Tryz.func56, Tryz.ntmps56
  go_wp2_with fail
  refine hpl.mono ?_
  rintro e w2 ⟨rfl, hb⟩
  rw [← hw1] at hb
  have hO3 := HO2.out.later hb
  obtain ⟨x3, ⟨b0, b1⟩, ⟨y0, y1, y2, y3⟩, n0, ⟨hl, t2, hl2, hdir⟩, hcl⟩ := hgen w2 hO3 (Nat.le_trans hsz1 hb.size) (hm1.later hb)
  clear o0 o1 hpl hw1 hb hO3 hgen hsz1 HO2 hm1
  go_wp2_with fail
  go_region
  go_wp2_with (go_at_call 94; refine hdir.mono ?_; rintro e w' ⟨rfl, rfl⟩)
  refine hcl.mono ?_
  rintro e w3 ⟨rfl, hD⟩
  have HD := Lib.hid hD
  clear hD hcl
  go_wp2_with fail
  go_ret
  exact HD.out
set_option maxHeartbeats 4000000 in
theorem do_turn6 {w0 w : World} {S : Blocks} {L : List Rw} {t : Nat} {T : Tr} (hO : Own ⟨w0, S⟩ w L) (H : Tree S (Pc L) t T) (hm : Mx w) (p q : ByteArray) (hp : p.size ≤ maxLen) {va : Option Addr} {vn vc : Nat} (hvn : vn ≤ 3500)
    {j : Int} {nd : Nd} {k : Nat} {z : List UInt8} (hc : placeT T p.data.toList = (0, some (j, nd, z))) (ha : At T j nd k) {i : Int} {f : Nd} (hx : look nd.kids (toB z) = some i) (g : Fl T i f) {R : Tr → Prop} {c : Int}
    (hcall : ∀ S' w', Own ⟨w0, S'⟩ w' L → Tree S' (Pc L) t T → (∀ b x, (b, x) ∈ S → (b, x) ∈ S') → Mx w' → Calls Tryz.prog 95 #[.pointer (some ⟨t, 0, none⟩), .agg #[.pointer (some ⟨nd.b, 0, none⟩), .string (toB z)], .int .i64 i, .agg (opL 6 p q (.slice va vn vc)).toArray] w' (DoL w0 S' L t T w' R (.int .i64 c))) :
    Calls Tryz.prog 56 #[.pointer (some ⟨t, 0, none⟩), .agg (opL 6 p q (.slice va vn vc)).toArray] w (DoL w0 S L t T w R (.int .i64 c)) := by
  obtain ⟨w1, S2, hw1, hsz, hO2, H1, m1, hsub, hlt, hB1⟩ := one_box hO H (.cells #[.int .i64 6, .string p, .string q, .slice va vn vc] 63)
  have o0 : w1.cell? ⟨w.heap.size, 0, none⟩ = some (.int .i64 6) := by rw [hO2.cellB m1]; rfl
  have o1 : w1.cell? ⟨w.heap.size, 1, none⟩ = some (.string p) := by rw [hO2.cellB m1]; rfl
  have hpl := place_any (H1.at_.inWorld hO2) H.good p hp (hm.later hB1)
  rw [hc] at hpl
  have HO2 := Lib.hid hO2
  have hgen : ∀ w2, Own ⟨w0, S2⟩ w2 L → w.heap.size ≤ w2.heap.size → Mx w2 → (w2.alloc (boxP nd (toB z))).cell? ⟨w.heap.size, 3, none⟩ = some (.slice va vn vc) ∧
      ((w2.alloc (boxP nd (toB z))).drew.cell? ⟨w2.heap.size, 0, none⟩ = some (.pointer (some ⟨nd.b, 0, none⟩)) ∧ (w2.alloc (boxP nd (toB z))).drew.cell? ⟨w2.heap.size, 1, none⟩ = some (.string (toB z))) ∧
      ((w2.alloc (boxP nd (toB z))).drew.cell? ⟨w.heap.size, 0, none⟩ = some (.int .i64 6) ∧ (w2.alloc (boxP nd (toB z))).drew.cell? ⟨w.heap.size, 1, none⟩ = some (.string p) ∧ (w2.alloc (boxP nd (toB z))).drew.cell? ⟨w.heap.size, 2, none⟩ = some (.string q) ∧ (w2.alloc (boxP nd (toB z))).drew.cell? ⟨w.heap.size, 3, none⟩ = some (.slice va vn vc)) ∧
      (w2.alloc (boxP nd (toB z))).drew.cell? ⟨nd.b, 0, none⟩ = some (.map (some k)) ∧
      ((Instr.lookup 28 (.map (some k)) (.string (toB z)) true).run Tryz.prog (w2.alloc (boxP nd (toB z))).drew = .ok (.tuple #[.int .i64 i, .bool true]) (w2.alloc (boxP nd (toB z))).drew ∧ (w2.alloc (boxP nd (toB z))).drew.cell? ⟨t, 2, none⟩ = some (.map (some T.bm)) ∧ (Instr.lookup 79 (.map (some T.bm)) (.int .i64 i) false).run Tryz.prog (w2.alloc (boxP nd (toB z))).drew = .ok (.pointer (some ⟨f.b, 0, none⟩)) (w2.alloc (boxP nd (toB z))).drew ∧ Calls Tryz.prog 94 #[.pointer (some ⟨f.b, 0, none⟩)] (w2.alloc (boxP nd (toB z))).drew (fun e w' => e = .returned (.bool false) ∧ (w2.alloc (boxP nd (toB z))).drew = w')) ∧
      Calls Tryz.prog 95 #[.pointer (some ⟨t, 0, none⟩), .agg #[.pointer (some ⟨nd.b, 0, none⟩), .string (toB z)], .int .i64 i, .agg (opL 6 p q (.slice va vn vc)).toArray] (w2.alloc (boxP nd (toB z))).drew (fun e w' => e = .returned (.int .i64 c) ∧ DoL w0 S L t T w R (.int .i64 c) (.returned (.int .i64 c)) w') := by
    intro w2 h2 h3 hm2
    have h4 := h2.alloc (boxP nd (toB z))
    have h5 := h4.drew
    have b0 : (w2.alloc (boxP nd (toB z))).drew.cell? ⟨w2.heap.size, 0, none⟩ = some (.pointer (some ⟨nd.b, 0, none⟩)) := by show (w2.alloc _).cell? _ = _; rw [World.cell?_alloc_new]; rfl
    have b1 : (w2.alloc (boxP nd (toB z))).drew.cell? ⟨w2.heap.size, 1, none⟩ = some (.string (toB z)) := by show (w2.alloc _).cell? _ = _; rw [World.cell?_alloc_new]; rfl
    have hNW := (H1.at_.inWorld h5).node _ (look_mem ha.there)
    obtain ⟨c0, _, _⟩ := hNW.at0
    rw [ha.dir] at c0
    have hl := hNW.look ha.dir (toB z)
    rw [hx] at hl
    dsimp only [Option.getD_some, Option.isSome_some] at hl
    have hl2 := (H1.at_.inWorld h5).look i
    rw [g.there] at hl2
    dsimp only [ptrOf] at hl2
    have hdir := dir_any ((H1.at_.inWorld h5).node _ (look_mem g.there))
    rw [show f.k.isSome = false by rw [g.file]; rfl] at hdir
    refine ⟨by rw [h4.cellB m1]; rfl, ⟨b0, b1⟩, ⟨by rw [h5.cellB m1]; rfl, by rw [h5.cellB m1]; rfl, by rw [h5.cellB m1]; rfl, by rw [h5.cellB m1]; rfl⟩, c0, ⟨hl, (H1.at_.inWorld h5).at0.2.2, hl2, hdir⟩, (hcall S2 _ h5 H1 hsub (hm2.later (((Below.refl _ w2).alloc (Nat.le_refl _) _).drew))).mono fun e w' hd => ?_⟩
    obtain ⟨e1, hd2⟩ := hd.ret (.int .i64 c)
    subst e1
    exact ⟨rfl, hd2.more hsub (by show _ ≤ (w2.alloc _).heap.size; simp; omega) hlt⟩
  have hsz1 : w.heap.size ≤ w1.heap.size := by omega
  have hm1 := hm.later hB1
  rw [hw1] at o0 o1 hpl
  clear hO H hO2 H1 m1 hsub hlt hsz hc hm hB1 hcall ha hx g
  dsimp only [placeL] at hpl
  go_enter Tryz.func56, Tryz.ntmps56
  go_wp2_with fail
  refine hpl.mono ?_
  rintro e w2 ⟨rfl, hb⟩
  rw [← hw1] at hb
  have hO3 := HO2.out.later hb
  obtain ⟨x3, ⟨b0, b1⟩, ⟨y0, y1, y2, y3⟩, n0, ⟨hl, t2, hl2, hdir⟩, hcl⟩ := hgen w2 hO3 (Nat.le_trans hsz1 hb.size) (hm1.later hb)
  clear o0 o1 hpl hw1 hb hO3 hgen hsz1 HO2 hm1
  go_wp2_with fail
  go_region
  go_wp2_with (go_at_call 94; refine hdir.mono ?_; rintro e w' ⟨rfl, rfl⟩)
  refine hcl.mono ?_
  rintro e w3 ⟨rfl, hD⟩
  have HD := Lib.hid hD
  clear hD hcl
  go_wp2_with fail
  go_ret
  exact HD.out
end Go.Proofs.YtlkgmhlaoahdlaaGreatDoor
end

/- over; Do, where all goes well. -/
section
namespace Go.Proofs.YtlkgmhlaoahdlaaGreatDoor
open Go.RowKit
open Go.ChangeMaps (setBlock)
set_option linter.unusedVariables false
set_option linter.unusedSimpArgs false
set_option maxRecDepth 100000

set_option maxHeartbeats 1000000 in
theorem over_ok {w : World} {D : Value → List Int → Prop} {t : Nat} {T : Tr} (H : TreeIn (inW w) D t T) (hu : sumT T.nodes ≤ 1000000000) (h1 : T.nodes.length ≤ 128) (h2 : (sumT T.nodes : Int) ≤ T.quota) :
    Calls Tryz.prog 57 #[.pointer (some ⟨t, 0, none⟩)] w fun e w' => e = .returned (.int .i64 0) ∧ Below w.heap.size w w' := by
  have hn := nodes_any H
  have hus := used_any (w := w.drew) (H.later (Below.refl _ w).drew) hu
  have c0 := H.at0.1
  have hS : ∀ w', Below w.heap.size w.drew w' → w'.cell? ⟨t, 0, none⟩ = some (.int .i64 T.quota) := fun w' hb => (H.later ((Below.refl _ w).drew.trans hb)).at0.1
  have b1 : ¬ (128 < (T.nodes.length : Int)) := by omega
  have b2 : ¬ (T.quota < (sumT T.nodes : Int)) := by omega
  clear H hu h1 h2
  generalize sumT T.nodes = s at *
  generalize T.nodes.length = m at *
  generalize T.quota = qq at *
  go_enter Tryz.func57, Tryz.ntmps57
  go_wp2_with (go_at_call 96; refine hn.mono ?_; rintro e w' ⟨rfl, rfl⟩)
  go_region_held3 (fun w' : World => w'.cell? ⟨t, 0, none⟩ = some (.int .i64 qq)) (first | exact c0 | exact hS _ (Below.refl _ _) | exact hS _ hb3) (first | (go_at_call 97; refine hus.mono ?_; rintro e w3 ⟨rfl, hb3⟩))
  all_goals go_wp2_with fail
  all_goals go_ret
  all_goals exact ⟨rfl, (Below.refl _ w).drew.trans hb3⟩
end Go.Proofs.YtlkgmhlaoahdlaaGreatDoor
end

/- Do, where all goes well. -/
section
namespace Go.Proofs.YtlkgmhlaoahdlaaGreatDoor
open Go.RowKit
open Go.ChangeMaps (setBlock)
set_option linter.unusedVariables false
set_option linter.unusedSimpArgs false
set_option maxRecDepth 100000

/-- An operation as plain data: its kind, its paths, its bytes' slice. -/
structure OpD where
  kind : Int
  p : ByteArray
  q : ByteArray
  a : Option Addr
  n : Nat
  c : Nat
abbrev OpD.cells (o : OpD) : List Value := opL o.kind o.p o.q (.slice o.a o.n o.c)
theorem info_op (o : OpD) : (Tryz.prog.info? 63).map (·.size) = some o.cells.length := by
  have : (Tryz.prog.info? 63).map (·.size) = some 4 := by kernel_rfl
  exact this
theorem op_one (o : OpD) : ∀ v ∈ o.cells, v.oneCell' = true := by
  intro v hv
  simp only [OpD.cells, opL, List.mem_cons, List.not_mem_nil, or_false] at hv
  rcases hv with rfl | rfl | rfl | rfl <;> rfl
/-- The state behind i operations: the clone at c, beside all that was there. -/
def DoRel (w0 : World) (S : Blocks) (L : List Rw) (w : World) (c : Nat) (P : Nat → Tr → Prop) (i : Nat) (wr : World) : Prop :=
  ∃ S' L' T', Own ⟨w0, S'⟩ wr L' ∧ (∀ x ∈ L, x ∈ L') ∧ Tree S' (Pc L') c T' ∧ (∀ b x, (b, x) ∈ S → (b, x) ∈ S') ∧ (∀ b ∈ c :: T'.foot, w.heap.size ≤ b) ∧ P i T' ∧ Mx wr ∧ w.heap.size ≤ wr.heap.size
theorem DoRel.step {w0 w wr w' : World} {S S2 : Blocks} {L L2 : List Rw} {c i : Nat} {T2 : Tr} {P : Nat → Tr → Prop} {r : Value} {e : Ending} (hd : DoL w0 S2 L2 c T2 wr (P (i + 1)) r e w') (hL : ∀ x ∈ L, x ∈ L2) (hs : ∀ b x, (b, x) ∈ S → (b, x) ∈ S2) (hh : ∀ b ∈ c :: T2.foot, w.heap.size ≤ b) (hlt : ∀ b x, (b, x) ∈ S → b < w.heap.size) (hw : w.heap.size ≤ wr.heap.size) (hmx : ∀ S' L' w', Own ⟨w0, S'⟩ w' L' → Mx w') :
    e = .returned r ∧ DoRel w0 S L w c P (i + 1) w' := by
  obtain ⟨S', L', T', h1, h2, h3, h4, h5, h6⟩ := hd
  have hcw := (h2.atLt h4.at_.cells).2
  have hcl := hh c (List.mem_cons_self ..)
  refine ⟨h1, S', L', T', h2, fun x hx => h3 x (hL x hx), h4, fun b x hb => h5.kept b x (hs b x hb) fun hb2 => ?_, fun b hb => ?_, h6, hmx _ _ _ h2, by omega⟩
  · have := hlt b x hb
    have := hh b hb2
    omega
  · rcases h5.fresh b hb with h | h
    · exact hh b h
    · omega
/-- The tree takes the clone's place. -/
theorem Tree.moved {S' : Blocks} {D : Value → List Int → Prop} {c t : Nat} {T T' : Tr} (H : Tree S' D c T') (ht : (t, Obj.cells (treeCells T) 81) ∈ S') (hn : t ∉ T'.foot) : Tree (upd S' t (.cells (treeCells T') 81)) D t T' := by
  have hne : ∀ b ∈ T'.foot, b ≠ t := fun b hb e => hn (e ▸ hb)
  obtain ⟨o, h1, h2⟩ := H.at_.map
  refine ⟨⟨upd_same ht _, ⟨o, upd_other h1 (hne _ (List.mem_cons_self ..)) _, h2⟩, fun p hp => (H.at_.node p hp).mono (fun b x hb hx => upd_other hx (hne b (foot_mem hp hb)) _) (fun _ _ h => h)⟩, List.nodup_cons.2 ⟨hn, (List.nodup_cons.1 H.apart).2⟩, H.good⟩
theorem upd_upd (S : Blocks) (b : Nat) (o o' : Obj) : upd (upd S b o) b o' = upd S b o' := by
  unfold upd
  rw [List.map_map]
  apply List.map_congr_left
  intro m _
  simp only [Function.comp]
  by_cases h : m.1 = b
  · rw [if_pos h, if_pos rfl, if_pos h]
  · rw [if_neg h, if_neg h]
theorem store3 {w0 w5 : World} {S2 : Blocks} {L2 : List Rw} {t : Nat} {T T2 : Tr} (h5 : Own ⟨w0, S2⟩ w5 L2) (ht : (t, Obj.cells (treeCells T) 81) ∈ S2) :
    Own ⟨w0, upd S2 t (.cells (treeCells T2) 81)⟩ (((w5.setCell ⟨t, 0, none⟩ (.int .i64 T2.quota)).setCell ⟨t, 1, none⟩ (.int .i64 T2.next)).setCell ⟨t, 2, none⟩ (.map (some T2.bm))) L2 := by
  have h := ((h5.storeB ht 0 (.int .i64 T2.quota)).storeB (upd_same ht _) 1 (.int .i64 T2.next)).storeB (upd_same (upd_same ht _) _) 2 (.map (some T2.bm))
  rw [upd_upd, upd_upd] at h
  exact h
set_option maxHeartbeats 4000000 in
theorem do_all {w0 w : World} {S : Blocks} {L : List Rw} {t : Nat} {T : Tr} (hO : Own ⟨w0, S⟩ w L) (H : Tree S (Pc L) t T) (hm : Mx w) (hmx : ∀ S' L' w', Own ⟨w0, S'⟩ w' L' → Mx w') (g off : Nat) (ops : List OpD) (cap : Nat) (hn : ops.length ≤ 1000000)
    (hops : ∀ w' S' L', Own ⟨w0, S'⟩ w' L' → (∀ b x, (b, x) ∈ S → (b, x) ∈ S') → ∀ i (h : i < ops.length), w'.rangeAt g (off + i * 4) ops[i].cells) {P : Nat → Tr → Prop} (hP0 : ∀ T', Same T T' → P 0 T')
    (hstep : ∀ c i (h : i < ops.length) S' L' T' w', Own ⟨w0, S'⟩ w' L' → (∀ x ∈ L, x ∈ L') → Tree S' (Pc L') c T' → (∀ b x, (b, x) ∈ S → (b, x) ∈ S') → (∀ b ∈ c :: T'.foot, w.heap.size ≤ b) → P i T' → Mx w' → Calls Tryz.prog 56 #[.pointer (some ⟨c, 0, none⟩), .agg ops[i].cells.toArray] w' (DoL w0 S' L' c T' w' (P (i + 1)) (.int .i64 0)))
    (hend : ∀ T', P ops.length T' → sumT T'.nodes ≤ 1000000000 ∧ T'.nodes.length ≤ 128 ∧ (sumT T'.nodes : Int) ≤ T'.quota) :
    Calls Tryz.prog 31 #[.pointer (some ⟨t, 0, none⟩), .slice (some ⟨g, off, none⟩) ops.length cap] w (DoL w0 S L t T w (P ops.length) (.int .i64 0)) := by
  have hlt : ∀ b x, (b, x) ∈ S → b < w.heap.size := fun b x hb => (hO.atLt hb).2
  have htl : t < w.heap.size := hlt _ _ H.at_.cells
  have hcl := clone_t hO H
  have HT := Lib.hid H
  have HOps := Lib.hid hops
  have HStep := Lib.hid hstep
  have HEnd := Lib.hid hend
  have HP0 := Lib.hid hP0
  clear hops hstep hend hP0 H
  have hsz0 := hO.size
  clear hO
  go_enter Tryz.func31, Tryz.ntmps31
  go_wp2_with fail
  refine hcl.mono ?_
  rintro e wc ⟨c, S1, T1, rfl, h1, h2, h3, h4, h5⟩
  have hwc : w.heap.size ≤ wc.heap.size := by
    have := (h1.atLt h2.at_.cells).2
    have := h4 c (List.mem_cons_self ..)
    omega
  have HR := Lib.hid (show DoRel w0 S L w c P 0 wc from ⟨S1, L, T1, h1, fun _ h => h, h2, h3, h4, HP0.out _ h5, hmx _ _ _ h1, hwc⟩)
  clear hcl h1 h2 h3 h4 h5 HP0
  go_wp2_with fail
  go_loopw [14] (fun i wr => ∃ k : Nat, k ≤ ops.length ∧ i = .int .i64 k ∧ DoRel w0 S L w c P k wr) (fun i _ => ops.length - (intOf i).toNat)
  case atStart => exact ⟨0, Nat.zero_le _, rfl, HR.out⟩
  case round =>
    obtain ⟨k, hk, rfl, hR⟩ := hrel
    have HR1 := Lib.hid hR
    obtain ⟨S2, L2, T2, k1, k2, k3, k4, k5, k6, k7, k8⟩ := hR
    by_cases hkl : k < ops.length
    · have Hr := Lib.hid (HOps.out wr S2 L2 k1 k4 k hkl)
      have HO := Lib.hid k1
      obtain ⟨od, hod⟩ : ∃ od, od = ops[k] := ⟨_, rfl⟩
      rw [← hod] at Hr
      have hstep2 := fun S' L' T' w' => HStep.out c k hkl S' L' T' w'
      rw [← hod] at hstep2
      have Hs2 := Lib.hid hstep2
      have Hone := Lib.hid (op_one od)
      have hb63 : (k : Int) < (ops.length : Int) := by exact_mod_cast hkl
      clear hstep2 hod
      go_wp2_with (first
        | (refine wpList_load_mid rfl 63 (.tmp 16) rfl g (off + k * 4) rfl od.cells _ Hr.out Tryz.underlying63 rfl (info_op _) ?_)
        | (refine wpList_store_new rfl 63 (.tmp 7) (.tmp 17) rfl HO.out od.cells wr.heap.size rfl rfl rfl rfl (info_op _) Hone.out ?_))
      intro w3 hO3 hlt3
      have Hr2 := Lib.hid (show w3.rangeAt wr.heap.size 0 od.cells from by
        have h1 := Own.range (h := hO3) 0 4
        exact h1)
      have hcall := Hs2.out S2 _ T2 w3 hO3 (fun x hx => List.mem_cons_of_mem _ (k2 x hx)) (k3.mono (fun b x _ hx => hx) (fun v zs h => h.cons _)) k4 k5 k6 (hmx _ _ _ hO3)
      have hfin : ∀ e w4, DoL w0 S2 (⟨63, 4, .slice (some ⟨wr.heap.size, 0, none⟩) 1 1, 1, od.cells⟩ :: L2) c T2 w3 (P (k + 1)) (.int .i64 0) e w4 → e = .returned (.int .i64 0) ∧ DoRel w0 S L w c P (k + 1) w4 := fun e w4 hd => DoRel.step hd (fun x hx => List.mem_cons_of_mem _ (k2 x hx)) k4 k5 hlt (by omega) hmx
      have HF := Lib.hid hfin
      clear hfin hO3 Hr HO Hone Hs2 k1 k2 k3 k4 k5 k6 k7 HR1 HStep HEnd HOps HT
      go_wp2_with (refine wpList_load_mid rfl 63 (.tmp 7) rfl wr.heap.size 0 rfl od.cells _ Hr2.out Tryz.underlying63 rfl (info_op _) ?_)
      refine hcall.mono ?_
      rintro e w4 hd
      obtain ⟨rfl, hR4⟩ := HF.out e w4 hd
      have HR4 := Lib.hid hR4
      clear hd hR4 hcall HF Hr2
      go_wp2_with fail
      go_roundw
      case rel => exact ⟨k + 1, by omega, by go_num, HR4.out⟩
      case measure => simp [intOf]; omega
    · obtain rfl : k = ops.length := by omega
      obtain ⟨z1, z2, z3⟩ := HEnd.out T2 k6
      have hov := over_ok (k3.at_.inWorld k1) z1 z2 z3
      have hb63 : ¬ ((ops.length : Int) < (ops.length : Int)) := Int.lt_irrefl _
      have hgen : ∀ w5, Below wr.heap.size wr w5 → (w5.cell? ⟨c, 0, none⟩ = some (.int .i64 T2.quota) ∧ w5.cell? ⟨c, 1, none⟩ = some (.int .i64 T2.next) ∧ w5.cell? ⟨c, 2, none⟩ = some (.map (some T2.bm))) ∧ (w5.frozen? ⟨t, 0, none⟩ = false ∧ w5.frozen? ⟨t, 1, none⟩ = false ∧ w5.frozen? ⟨t, 2, none⟩ = false) ∧ (w5.cell? ⟨t, 0, none⟩ = some (.int .i64 T.quota) ∧ w5.cell? ⟨t, 1, none⟩ = some (.int .i64 T.next) ∧ w5.cell? ⟨t, 2, none⟩ = some (.map (some T.bm))) := by
        intro w5 hb
        have h5 := k1.later hb
        have ht5 := h5.at (k4 _ _ HT.out.at_.cells)
        exact ⟨(k3.at_.inWorld h5).at0, ⟨free_at ht5 0, free_at ht5 1, free_at ht5 2⟩, cell_at ht5 0, cell_at ht5 1, cell_at ht5 2⟩
      have Hgen := Lib.hid hgen
      clear hgen
      go_wp2_with fail
      refine hov.mono ?_
      rintro e w5 ⟨rfl, hb5⟩
      obtain ⟨⟨a0, a1, a2⟩, ⟨f0, f1, f2⟩, b0, b1, b2⟩ := Hgen.out w5 hb5
      go_wp2_with fail
      go_ret
      have ht5 := k4 _ _ HT.out.at_.cells
      refine ⟨_, L2, T2, rfl, store3 (k1.later hb5) ht5, k2, k3.moved ht5 (fun hm => by have := k5 t (List.mem_cons_of_mem _ hm); omega), ⟨fun b x hb hnb => upd_other (k4 b x hb) (fun e => hnb (e ▸ List.mem_cons_self ..)) _, fun b hb => ?_⟩, k6⟩
      rcases List.mem_cons.1 hb with rfl | hb
      · exact .inl (List.mem_cons_self ..)
      · exact .inr (k5 b (List.mem_cons_of_mem _ hb))
end Go.Proofs.YtlkgmhlaoahdlaaGreatDoor
end

/- Unpack: the operations that bytes are. -/
section
namespace Go.Proofs.YtlkgmhlaoahdlaaGreatDoor
open Go.RowKit
set_option linter.unusedVariables false
set_option linter.unusedSimpArgs false
set_option maxRecDepth 100000

theorem le4_num4 {zs : List Int} (hz : Byts zs) (hl : 4 ≤ zs.length) : le4 (num4 zs) ++ zs.drop 4 = zs := by
  match zs, hl with
  | a :: b :: c :: d :: r, _ =>
    obtain ⟨a0, a1⟩ := hz a (by simp)
    obtain ⟨b0, b1⟩ := hz b (by simp)
    obtain ⟨c0, c1⟩ := hz c (by simp)
    obtain ⟨d0, d1⟩ := hz d (by simp)
    have e : num4 (a :: b :: c :: d :: r) = a + 256 * b + 65536 * c + 16777216 * d := rfl
    rw [e]
    unfold le4
    have e1 : (a + 256 * b + 65536 * c + 16777216 * d) % 256 = a := by omega
    have e2 : (a + 256 * b + 65536 * c + 16777216 * d) / 256 % 256 = b := by omega
    have e3 : (a + 256 * b + 65536 * c + 16777216 * d) / 65536 % 256 = c := by omega
    have e4 : (a + 256 * b + 65536 * c + 16777216 * d) / 16777216 = d := by omega
    rw [e1, e2, e3, e4]; rfl
theorem sized_back {zs : List Int} {most : Int} (hz : Byts zs) (hs : isSized zs most) : sizedL (bodyOf zs) ++ restOf zs = zs := by
  have hl := bodyOf_length zs most hs hz
  unfold sizedL
  rw [hl, List.append_assoc]
  unfold bodyOf restOf
  rw [List.take_append_drop]
  exact le4_num4 hz hs.1
/-- An operation as bytes. -/
structure OpB where
  κ : Int
  p : List Int
  q : List Int
  d : List Int
def packB (o : OpB) : List Int := le4 o.κ ++ sizedL o.p ++ sizedL o.q ++ sizedL o.d
def packsB (l : List OpB) : List Int := (l.map packB).flatten
abbrev UState := List OpB × List Int × Bool
/-- One operation more is taken. -/
def stepU (s : UState) : UState :=
  (s.1 ++ [⟨(numP 6 s.2.1 s.2.2).1, (bodP 40 (numP 6 s.2.1 s.2.2).2.1 (numP 6 s.2.1 s.2.2).2.2).1,
    (bodP 40 (bodP 40 (numP 6 s.2.1 s.2.2).2.1 (numP 6 s.2.1 s.2.2).2.2).2.1 (bodP 40 (numP 6 s.2.1 s.2.2).2.1 (numP 6 s.2.1 s.2.2).2.2).2.2).1,
    (bodP 3500 (bodP 40 (bodP 40 (numP 6 s.2.1 s.2.2).2.1 (numP 6 s.2.1 s.2.2).2.2).2.1 (bodP 40 (numP 6 s.2.1 s.2.2).2.1 (numP 6 s.2.1 s.2.2).2.2).2.2).2.1
      (bodP 40 (bodP 40 (numP 6 s.2.1 s.2.2).2.1 (numP 6 s.2.1 s.2.2).2.2).2.1 (bodP 40 (numP 6 s.2.1 s.2.2).2.1 (numP 6 s.2.1 s.2.2).2.2).2.2).2.2).1⟩],
   (bodP 3500 (bodP 40 (bodP 40 (numP 6 s.2.1 s.2.2).2.1 (numP 6 s.2.1 s.2.2).2.2).2.1 (bodP 40 (numP 6 s.2.1 s.2.2).2.1 (numP 6 s.2.1 s.2.2).2.2).2.2).2.1
      (bodP 40 (bodP 40 (numP 6 s.2.1 s.2.2).2.1 (numP 6 s.2.1 s.2.2).2.2).2.1 (bodP 40 (numP 6 s.2.1 s.2.2).2.1 (numP 6 s.2.1 s.2.2).2.2).2.2).2.2).2)
theorem numP_len (most : Int) (zs : List Int) (bad : Bool) : (numP most zs bad).2.1.length ≤ zs.length - 4 := by
  unfold numP
  split
  · simp
  · simp
theorem bodP_len (most : Int) (zs : List Int) (bad : Bool) : (bodP most zs bad).2.1.length ≤ zs.length := by
  unfold bodP
  split
  · unfold restOf; simp only [List.length_drop]; omega
  · simp
theorem stepU_len (s : UState) (h : 0 < s.2.1.length) : (stepU s).2.1.length < s.2.1.length := by
  have h1 := numP_len 6 s.2.1 s.2.2
  unfold stepU
  simp only
  generalize numP 6 s.2.1 s.2.2 = a at *
  have h2 := bodP_len 40 a.2.1 a.2.2
  generalize bodP 40 a.2.1 a.2.2 = b at *
  have h3 := bodP_len 40 b.2.1 b.2.2
  generalize bodP 40 b.2.1 b.2.2 = c at *
  have h4 := bodP_len 3500 c.2.1 c.2.2
  omega
theorem numP_yes {most : Int} {zs : List Int} {bad : Bool} (h : (numP most zs bad).2.2 = false) : bad = false ∧ (4 ≤ zs.length ∧ num4 zs ≤ most) ∧ (numP most zs bad).1 = num4 zs ∧ (numP most zs bad).2.1 = zs.drop 4 := by
  unfold numP at h ⊢
  split at h
  · rename_i hs; rw [if_pos hs]; exact ⟨h, hs, rfl, rfl⟩
  · cases h
theorem bodP_yes {most : Int} {zs : List Int} {bad : Bool} (h : (bodP most zs bad).2.2 = false) : bad = false ∧ isSized zs most ∧ (bodP most zs bad).1 = bodyOf zs ∧ (bodP most zs bad).2.1 = restOf zs := by
  unfold bodP at h ⊢
  split at h
  · rename_i hs; rw [if_pos hs]; exact ⟨h, hs, rfl, rfl⟩
  · cases h
/-- What an operation that was taken is. -/
structure OkB (o : OpB) : Prop where
  κ : 0 ≤ o.κ ∧ o.κ ≤ 6
  p : Byts o.p ∧ o.p.length ≤ 40
  q : Byts o.q ∧ o.q.length ≤ 40
  d : Byts o.d ∧ o.d.length ≤ 3500
theorem step_back {l : List OpB} {zs : List Int} {bad : Bool} (hz : Byts zs) (h : (stepU (l, zs, bad)).2.2 = false) : bad = false ∧ ∃ o, (stepU (l, zs, bad)).1 = l ++ [o] ∧ OkB o ∧ packB o ++ (stepU (l, zs, bad)).2.1 = zs := by
  unfold stepU at h ⊢
  simp only at h ⊢
  obtain ⟨d1, d2, d3, d4⟩ := bodP_yes h
  rw [d3, d4]
  obtain ⟨c1, c2, c3, c4⟩ := bodP_yes d1
  rw [c4] at d2 ⊢
  rw [c3]
  obtain ⟨b1, b2, b3, b4⟩ := bodP_yes c1
  rw [b4] at d2 c2 ⊢
  rw [b3]
  obtain ⟨a1, a2, a3, a4⟩ := numP_yes b1
  rw [a4] at b2 c2 d2 ⊢
  rw [a3]
  have z1 : Byts (zs.drop 4) := hz.drop 4
  have z2 : Byts (restOf (zs.drop 4)) := (z1.drop 4).drop _
  have z3 : Byts (restOf (restOf (zs.drop 4))) := (z2.drop 4).drop _
  have l1 := bodyOf_length _ _ b2 z1
  have l2 := bodyOf_length _ _ c2 z2
  have l3 := bodyOf_length _ _ d2 z3
  have m1 := b2.2.1
  have m2 := c2.2.1
  have m3 := d2.2.1
  refine ⟨a1, _, rfl, ⟨⟨(num4_bounds zs hz).1, a2.2⟩, ⟨(z1.drop 4).take _, by show (bodyOf (zs.drop 4)).length ≤ 40; omega⟩, ⟨(z2.drop 4).take _, by show (bodyOf (restOf (zs.drop 4))).length ≤ 40; omega⟩, ⟨(z3.drop 4).take _, by show (bodyOf (restOf (restOf (zs.drop 4)))).length ≤ 3500; omega⟩⟩, ?_⟩
  unfold packB
  simp only [List.append_assoc]
  rw [sized_back z3 d2, sized_back z2 c2, sized_back z1 b2]
  exact le4_num4 hz a2.1
inductive RunU (s0 : UState) : UState → Prop
  | start : RunU s0 s0
  | step {s : UState} : RunU s0 s → 0 < s.2.1.length → RunU s0 (stepU s)
theorem RunU.back {zs : List Int} (hz : Byts zs) {s : UState} (h : RunU ([], zs, false) s) : Byts s.2.1 ∧ (s.2.2 = false → packsB s.1 ++ s.2.1 = zs ∧ ∀ o ∈ s.1, OkB o) := by
  induction h with
  | start => exact ⟨hz, fun _ => ⟨rfl, fun o ho => by cases ho⟩⟩
  | step h1 h2 ih =>
    rename_i s
    obtain ⟨l, ys, b⟩ := s
    obtain ⟨i1, i2⟩ := ih
    have hb : Byts (stepU (l, ys, b)).2.1 := by
      unfold stepU
      simp only
      have k1 : Byts (numP 6 ys b).2.1 := by
        unfold numP
        split
        · exact i1.drop 4
        · exact Byts.nil
      exact (bodP_byts (bodP_byts (bodP_byts k1).2).2).2
    refine ⟨hb, fun hf => ?_⟩
    obtain ⟨b0, o, e1, e2, e3⟩ := step_back i1 hf
    obtain ⟨j1, j2⟩ := i2 b0
    rw [e1]
    refine ⟨?_, fun x hx => ?_⟩
    · unfold packsB at j1 ⊢
      rw [List.map_append, List.flatten_append]
      simp only [List.map_cons, List.map_nil, List.flatten_cons, List.flatten_nil, List.append_nil, List.append_assoc]
      rw [e3]; exact j1
    · rcases List.mem_append.1 hx with hx | hx
      · exact j2 x hx
      · rw [List.mem_singleton.1 hx]; exact e2
/-- Operations in a row of the law's. -/
structure OpOf (L : List Rw) (o : OpD) (x : OpB) : Prop where
  kind : o.kind = x.κ
  p : o.p = strOfNums x.p
  q : o.q = strOfNums x.q
  n : o.n = x.d.length
  data : Pc L (.slice o.a o.n o.c) x.d
theorem OpOf.mono {L L' : List Rw} {o : OpD} {x : OpB} (h : OpOf L o x) (hs : ∀ r ∈ L, r ∈ L') : OpOf L' o x := ⟨h.kind, h.p, h.q, h.n, h.data.mono hs⟩
def rowO (v : Value) (ds : List OpD) : Rw := ⟨63, 4, v, ds.length, (ds.map OpD.cells).flatten⟩
theorem info_op3 : ∃ i, Tryz.prog.info? 63 = some i ∧ i.zero = some (.agg #[.int .i64 0, .string ⟨#[]⟩, .string ⟨#[]⟩, .slice none 0 0]) ∧ i.size = 4 ∧ i.bytes = 64 := by
  have h : (Tryz.prog.info? 63).map (fun i => (i.zero, i.size, i.bytes)) = some (some (.agg #[.int .i64 0, .string ⟨#[]⟩, .string ⟨#[]⟩, .slice none 0 0]), 4, 64) := by kernel_rfl
  cases hi : Tryz.prog.info? 63 with
  | none => rw [hi] at h; cases h
  | some i =>
    rw [hi] at h
    injection h with h
    injection h with h1 h2
    injection h2 with h2 h3
    exact ⟨i, rfl, h1, h2, h3⟩
abbrev zOp : Value := .agg #[.int .i64 0, .string ⟨#[]⟩, .string ⟨#[]⟩, .slice none 0 0]
theorem zOp_size : zOp.cells.size = 4 := rfl
theorem cells_len (o : OpD) : o.cells.length = 1 * 4 := rfl
theorem lit_src (w : World) (cs : List Value) (T : TypeId) (h1 : ∀ u ∈ cs, u.oneCell' = true) (H : Nat) (hH : H = w.heap.size) : Src (w.alloc (.cells cs.toArray T)) (.slice (some ⟨H, 0, none⟩) 1 1) 1 cs := by
  subst hH
  refine .inr ⟨_, _, rfl, fun j u hj => ?_, h1⟩
  rw [Addr.add_mid, Nat.zero_add, World.cell?_alloc_new]
  simpa using hj
def UnRel (W0 : Base) (L : List Rw) (r : Nat) (zs : List Int) (v : Value) (wr : World) : Prop :=
  ∃ (s : UState) (os : List (OpD × OpB)) (L1 : List Rw), RunU ([], zs, false) s ∧ Rd W0 wr (rowO v (os.map (·.1)) :: (L1 ++ L)) r s.2.1 s.2.2 ∧ os.map (·.2) = s.1 ∧ (∀ x ∈ os, OpOf (L1 ++ L) x.1 x.2) ∧ os.length + s.2.1.length ≤ zs.length
def leftU (W0 : Base) (L : List Rw) (r : Nat) (w : World) : Nat := match w.cell? ⟨r, 0, none⟩ with
  | some (.slice _ n _) => n
  | _ => 0
theorem Rd.left {W0 : Base} {w : World} {L : List Rw} {r : Nat} {zs : List Int} {bad : Bool} (h : Rd W0 w L r zs bad) (W1 : Base) (M : List Rw) : leftU W1 M r w = zs.length := by
  obtain ⟨v, h1, h2⟩ := h
  obtain ⟨c0, _, _⟩ := reader_cells h1
  obtain ⟨a, c, rfl, _⟩ := h2
  unfold leftU
  rw [c0]
end Go.Proofs.YtlkgmhlaoahdlaaGreatDoor
end

/- Unpack: the walk. -/
section
namespace Go.Proofs.YtlkgmhlaoahdlaaGreatDoor
open Go.RowKit
set_option linter.unusedVariables false
set_option linter.unusedSimpArgs false
set_option maxRecDepth 100000

/-- What Unpack tells: the operations of all bytes, or that they are none. -/
def UnpackAt (W0 : Base) (L : List Rw) (zs : List Int) (e : Ending) (w' : World) : Prop :=
  ∃ s : UState, RunU ([], zs, false) s ∧ s.2.1 = [] ∧ ∃ (v : Value) (os : List (OpD × OpB)) (L1 : List Rw), Own W0 w' (rowO v (os.map (·.1)) :: (L1 ++ L)) ∧ os.map (·.2) = s.1 ∧ (∀ x ∈ os, OpOf (L1 ++ L) x.1 x.2) ∧ os.length ≤ zs.length ∧
    (∃ a c, v = .slice a os.length c) ∧ e = .returned (if s.2.2 = false then .tuple #[v, .int .i64 0] else .tuple #[.slice none 0 0, .int .i64 4])
set_option maxHeartbeats 4000000 in
theorem unpack_any {W0 : Base} {w : World} {L : List Rw} (hO : Own W0 w L) (v : Value) (zs : List Int) (h : By w v zs) (hl : zs.length ≤ 1000000) :
    Calls Tryz.prog 87 #[v] w (UnpackAt W0 L zs) := by
  have hrd := rread_rd v zs w h (by omega) W0 L hO
  obtain ⟨_, _, a, c, rfl, _, _⟩ := h
  obtain ⟨inf, hi0, hi1, hi2, hi3⟩ := info_op3
  have Hi0 := Lib.hid hi0
  have Hi1 := Lib.hid hi1
  have Hi2 := Lib.hid hi2
  have Hi3 := Lib.hid hi3
  clear hi0 hi1 hi2 hi3 hO
  go_enter Tryz.func87, Tryz.ntmps87
  go_wp2_with fail
  refine hrd.mono ?_
  rintro e w1 ⟨r, L0, rfl, hR⟩
  have HR0 := Lib.hid (show UnRel W0 L r zs (.slice none 0 0) w1 from ⟨_, [], L0, .start, (by
    obtain ⟨v1, g1, g2⟩ := hR
    exact ⟨v1, (Own.nil g1 _ _).swap, g2.cons _⟩), rfl, (fun x hx => by cases hx), by simp⟩)
  clear hrd hR
  go_wp2_with fail
  go_loopw [4] (fun v wr => UnRel W0 L r zs v wr) (fun _ wr => leftU W0 L r wr)
  case atStart => exact HR0.out
  case round =>
    obtain ⟨s, os, L1, hrun, hR, hbs, hops, hlen⟩ := hrel
    have hmore := hR.more
    have HR := Lib.hid hR
    have Hrun := Lib.hid hrun
    have Hbs := Lib.hid hbs
    have Hops := Lib.hid hops
    have Hlen := Lib.hid hlen
    have Hleft := Lib.hid (hR.left W0 L)
    clear hrun hbs hops hlen
    rcases Nat.eq_zero_or_pos s.2.1.length with h0 | h0
    · have herr := hR.err
      rw [decide_eq_false (by omega)] at hmore
      rw [decide_eq_true h0] at herr
      have hs0 : s.2.1 = [] := List.eq_nil_of_length_eq_zero h0
      obtain ⟨zl, zy, bad⟩ := s
      obtain ⟨vr, g1, g2⟩ := hR
      have hv : ∃ a c, u4 = .slice a os.length c := by
        obtain ⟨a, c, e, _⟩ := Own.sized (h := (show Own W0 wr (⟨63, 4, u4, (os.map (·.1)).length, _⟩ :: (L1 ++ L)) from g1.tail))
        exact ⟨a, c, by rw [e, List.length_map]⟩
      have HF := Lib.hid (show ∀ e, e = .returned (if bad = false then .tuple #[u4, .int .i64 0] else .tuple #[.slice none 0 0, .int .i64 4]) → UnpackAt W0 L zs e wr from fun e he => ⟨_, Hrun.out, hs0, u4, os, L1, g1.tail, Hbs.out, Hops.out, (by have := Hlen.out; omega), hv, he⟩)
      clear HR g1 g2 hs0 h0
      cases bad with
      | false =>
        simp only [Bool.not_false, Bool.and_true, if_true] at herr
        go_wp2_with (first
          | (go_at_call 85; refine hmore.mono ?_; rintro e w' ⟨rfl, rfl⟩)
          | (go_at_call 135; refine herr.mono ?_; rintro e w' ⟨rfl, rfl⟩))
        go_ret2
        exact HF.out _ rfl
      | true =>
        simp only [Bool.not_true, Bool.false_and, Bool.false_eq_true, if_false] at herr
        go_wp2_with (first
          | (go_at_call 85; refine hmore.mono ?_; rintro e w' ⟨rfl, rfl⟩)
          | (go_at_call 135; refine herr.mono ?_; rintro e w' ⟨rfl, rfl⟩))
        go_ret2
        exact HF.out _ rfl
    · rw [decide_eq_true h0] at hmore
      have hlt := stepU_len s h0
      obtain ⟨A, hA⟩ : ∃ A, numP 6 s.2.1 s.2.2 = A := ⟨_, rfl⟩
      obtain ⟨B, hB⟩ : ∃ B, bodP 40 A.2.1 A.2.2 = B := ⟨_, rfl⟩
      obtain ⟨C, hC⟩ : ∃ C, bodP 40 B.2.1 B.2.2 = C := ⟨_, rfl⟩
      obtain ⟨D, hD⟩ : ∃ D, bodP 3500 C.2.1 C.2.2 = D := ⟨_, rfl⟩
      have hst : stepU s = (s.1 ++ [⟨A.1, B.1, C.1, D.1⟩], D.2) := by
        unfold stepU
        rw [hA, hB, hC, hD]
      have Hst := Lib.hid hst
      rw [hst] at hlt
      have Hlt := Lib.hid hlt
      have H0 := Lib.hid h0
      have hn := hR.num 6
      rw [hA] at hn
      clear hR hst hlt h0
      go_wp2_with (go_at_call 85; refine hmore.mono ?_; rintro e w' ⟨rfl, rfl⟩)
      refine hn.mono ?_
      rintro e w2 ⟨rfl, hR2⟩
      have ht1 := hR2.text 40
      rw [hB] at ht1
      clear hn hR2 hmore
      go_wp2_with fail
      refine ht1.mono ?_
      rintro e w3 ⟨rfl, hR3⟩
      have ht2 := hR3.text 40
      rw [hC] at ht2
      clear ht1 hR3
      go_wp2_with fail
      refine ht2.mono ?_
      rintro e w4 ⟨rfl, hR4⟩
      have hr := hR4.raw 3500
      rw [hD] at hr
      clear ht2 hR4
      go_wp2_with fail
      refine hr.mono ?_
      rintro e w5 ⟨vd, L2, rfl, ⟨vr, hO5, hp5⟩, hpd⟩
      have hn5 : ∃ a c, vd = .slice a D.1.length c := by
        obtain ⟨a, c, h, _⟩ := hpd
        exact ⟨a, c, h⟩
      obtain ⟨va, vc, rfl⟩ := hn5
      clear hr hA hB hC hD
      have hO6 : Own W0 w5 (rowO u4 (os.map (·.1)) :: rowR r vr D.2.2 :: (L2 ++ (L1 ++ L))) := hO5.perm (by
        refine (List.Perm.cons _ List.perm_middle).trans (List.Perm.swap _ _ _))
      have HA := Lib.hid (hO6.alloc (.cells (OpD.cells ⟨A.1, strOfNums B.1, strOfNums C.1, va, D.1.length, vc⟩).toArray 63))
      have Hsrc := Lib.hid (lit_src w5 (OpD.cells ⟨A.1, strOfNums B.1, strOfNums C.1, va, D.1.length, vc⟩) 63 (op_one _) w5.heap.size rfl)
      have Hp5 := Lib.hid hp5
      have Hpd := Lib.hid hpd
      have hlen1 := Hlen.out
      have hle1 : os.length ≤ 1000000 := by omega
      have H63 := Lib.hid (show (os.map (·.1)).length + 1 ≤ maxLen from by rw [List.length_map]; unfold maxLen; omega)
      have Hby := Lib.hid (show ((os.map (·.1)).length + 1) * 64 ≤ 140737488355328 from by rw [List.length_map]; omega)
      clear hO5 hO6 hp5 hpd hlen1
      go_wp2_with (at_builtin; refine wpList_append_src rfl (.tmp 11) (.tmp 21) 98 rfl u4 (os.map (·.1)).length ((os.map (·.1)).map OpD.cells).flatten (.slice (some ⟨w5.heap.size, 0, none⟩) 1 1) 1 (OpD.cells ⟨A.1, strOfNums B.1, strOfNums C.1, va, D.1.length, vc⟩) rfl rfl HA.out inf zOp 64 Tryz.underlying98 Hi0.out Hi1.out Hi2.out Hi3.out zOp_size (by decide) Hsrc.out (cells_len _) (by rw [List.length_map]; unfold maxLen; omega) (by rw [List.length_map]; omega) ?_)
      intro v' w6 hO7
      have hRd : Rd W0 w6 (rowO v' ((os ++ [((⟨A.1, strOfNums B.1, strOfNums C.1, va, D.1.length, vc⟩ : OpD), (⟨A.1, B.1, C.1, D.1⟩ : OpB))]).map (·.1)) :: ((L2 ++ L1) ++ L)) r D.2.1 D.2.2 := by
        refine ⟨vr, ?_, ?_⟩
        · have h1 := hO7.swap
          rw [List.append_assoc]
          have e : rowO v' ((os ++ [((⟨A.1, strOfNums B.1, strOfNums C.1, va, D.1.length, vc⟩ : OpD), (⟨A.1, B.1, C.1, D.1⟩ : OpB))]).map (·.1)) = ⟨63, 4, v', os.length + 1, (List.map (OpD.cells ∘ fun x => x.fst) os).flatten ++ OpD.cells ⟨A.1, strOfNums B.1, strOfNums C.1, va, D.1.length, vc⟩⟩ := by
            unfold rowO
            simp
          rw [e]
          exact h1
        · exact Hp5.out.keep fun x hx he => by
            rcases List.mem_append.1 hx with h | h
            · exact List.mem_cons_of_mem _ (List.mem_append_left _ (List.mem_append_left _ h))
            · rcases List.mem_cons.1 h with h | h
              · rw [h] at he; exact absurd (show (63 : TypeId) = 5 from he) (by decide)
              · rcases List.mem_append.1 h with h | h
                · exact List.mem_cons_of_mem _ (List.mem_append_left _ (List.mem_append_right _ h))
                · exact List.mem_cons_of_mem _ (List.mem_append_right _ h)
      have Hl6 := Lib.hid (hRd.left W0 L)
      have HR6 := Lib.hid (show UnRel W0 L r zs v' w6 from ⟨stepU s, os ++ [(⟨A.1, strOfNums B.1, strOfNums C.1, va, D.1.length, vc⟩, ⟨A.1, B.1, C.1, D.1⟩)], L2 ++ L1, .step Hrun.out H0.out, by
        rw [Hst.out]
        exact hRd, by
        rw [Hst.out, List.map_append, Hbs.out]; rfl, fun x hx => by
        rcases List.mem_append.1 hx with h | h
        · exact (Hops.out x h).mono fun y hy => by
            rw [List.append_assoc]
            exact List.mem_append_right _ hy
        · rw [List.mem_singleton.1 h]
          exact ⟨rfl, rfl, rfl, rfl, Hpd.out.mono fun y hy => List.mem_append_left _ (List.mem_append_left _ hy)⟩, by
        rw [Hst.out, List.length_append]
        have h1 := Hlen.out
        have h2 := Hlt.out
        simp only [List.length_singleton] at h2 ⊢
        omega⟩)
      clear hRd
      clear hO7
      go_wp2_with fail
      go_roundw
      case rel => exact HR6.out
      case measure => rw [Hl6.out, Hleft.out]; exact Hlt.out
end Go.Proofs.YtlkgmhlaoahdlaaGreatDoor
end

/- Pack: operations as bytes. -/
section
namespace Go.Proofs.YtlkgmhlaoahdlaaGreatDoor
open Go.RowKit
set_option linter.unusedVariables false
set_option linter.unusedSimpArgs false
set_option maxRecDepth 100000

def packD (o : OpD) (d : List Int) : List Int := le4 o.kind ++ (sizedL (sb o.p) ++ (sizedL (sb o.q) ++ sizedL d))
/-- Operations that Pack is handed: where they lie, as long as rows of L do, and their bytes. -/
structure PackIn (W0 : Base) (L : List Rw) (a : Option Addr) (ops : List (OpD × List Int)) : Prop where
  at_ : ∀ w' L', Own W0 w' L' → (∀ x ∈ L, x ∈ L') → ∀ i (h : i < ops.length), ∃ g off, a = some ⟨g, off, none⟩ ∧ w'.rangeAt g (off + i * 4) ops[i].1.cells
  data : ∀ w' L', Own W0 w' L' → (∀ x ∈ L, x ∈ L') → ∀ o ∈ ops, By w' (.slice o.1.a o.1.n o.1.c) o.2
  kind : ∀ o ∈ ops, 0 ≤ o.1.kind ∧ o.1.kind < 4294967296
  len : ∀ o ∈ ops, o.1.p.size ≤ 100000 ∧ o.1.q.size ≤ 100000 ∧ o.2.length ≤ 100000
def packsD (ops : List (OpD × List Int)) : List Int := (ops.map fun o => packD o.1 o.2).flatten
def boxOp (H : Nat) (o : OpD) : Rw := ⟨63, 4, .slice (some ⟨H, 0, none⟩) 1 1, 1, o.cells⟩
def rowPt (v : Value) (PS : List (Value × List Int)) : Rw := ⟨189, 1, v, PS.length, PS.map (·.1)⟩
theorem box_cells {W0 : Base} {w : World} {L : List Rw} (h : Own W0 w L) {H : Nat} {o : OpD} (hm : boxOp H o ∈ L) :
    w.cell? ⟨H, 0, none⟩ = some (.int .i64 o.kind) ∧ w.cell? ⟨H, 1, none⟩ = some (.string o.p) ∧ w.cell? ⟨H, 2, none⟩ = some (.string o.q) ∧ w.cell? ⟨H, 3, none⟩ = some (.slice o.a o.n o.c) := by
  have h1 := h.only hm
  exact ⟨Own.cell (h := h1) 0 (by decide), Own.cell (h := h1) 1 (by decide), Own.cell (h := h1) 2 (by decide), Own.cell (h := h1) 3 (by decide)⟩
def PkRel (W0 : Base) (L : List Rw) (ops : List (OpD × List Int)) (k : Nat) (v : Value) (wr : World) : Prop :=
  ∃ (PS : List (Value × List Int)) (L1 : List Rw), Own W0 wr (rowPt v PS :: (L1 ++ L)) ∧ (∀ p ∈ PS, rowU p.1 p.2 ∈ L1 ∧ Byts p.2) ∧ allOf PS = packsD (ops.take k) ∧ PS.length = 4 * k
theorem part_info : ∃ i, Tryz.prog.info? 189 = some i ∧ i.zero = some (.slice none 0 0) ∧ i.size = 1 ∧ i.bytes = 24 := by
  have h : (Tryz.prog.info? 189).map (fun i => (i.zero, i.size, i.bytes)) = some (some (.slice none 0 0), 1, 24) := by kernel_rfl
  cases hi : Tryz.prog.info? 189 with
  | none => rw [hi] at h; cases h
  | some i =>
    rw [hi] at h
    injection h with h
    injection h with h1 h2
    injection h2 with h2 h3
    exact ⟨i, rfl, h1, h2, h3⟩
theorem packsD_snoc (ops : List (OpD × List Int)) (k : Nat) (h : k < ops.length) : packsD (ops.take (k + 1)) = packsD (ops.take k) ++ packD ops[k].1 ops[k].2 := by
  unfold packsD
  rw [List.take_succ_eq_append_getElem h, List.map_append, List.flatten_append]
  simp
theorem packD_len {o : OpD} {d : List Int} (h1 : o.p.size ≤ 100000) (h2 : o.q.size ≤ 100000) (h3 : d.length ≤ 100000) : (packD o d).length ≤ 300016 := by
  unfold packD
  simp only [List.length_append, sizedL_length, sb_length]
  have : (le4 o.kind).length = 4 := rfl
  omega
theorem packsD_len (ops : List (OpD × List Int)) (h : ∀ o ∈ ops, o.1.p.size ≤ 100000 ∧ o.1.q.size ≤ 100000 ∧ o.2.length ≤ 100000) : (packsD ops).length ≤ 300016 * ops.length := by
  unfold packsD
  induction ops with
  | nil => simp
  | cons o r ih =>
    have h1 := ih fun x hx => h x (List.mem_cons_of_mem _ hx)
    obtain ⟨a, b, c⟩ := h o (List.mem_cons_self ..)
    have h2 := packD_len a b c
    simp only [List.map_cons, List.flatten_cons, List.length_append, List.length_cons]
    omega
theorem PkRel.parts {W0 : Base} {L : List Rw} {ops : List (OpD × List Int)} {k : Nat} {v : Value} {wr : World} (h : PkRel W0 L ops k v wr) : ∃ a c PS, v = .slice a PS.length c ∧ Parts wr a PS ∧ allOf PS = packsD (ops.take k) ∧ PS.length = 4 * k := by
  obtain ⟨PS, L1, h1, h2, h3, h4⟩ := h
  obtain ⟨a, c, hv, _, _⟩ := Own.sized (h := (show Own W0 wr (⟨189, 1, v, PS.length, PS.map (·.1)⟩ :: (L1 ++ L)) from h1))
  refine ⟨a, c, PS, hv, fun i hi => ?_, h3, h4⟩
  obtain ⟨g, cap, e, _⟩ := Own.form (h := (show Own W0 wr (⟨189, 1, v, PS.length, PS.map (·.1)⟩ :: (L1 ++ L)) from h1)) (by omega)
  rw [e] at hv h1
  injection hv with e1 _ _
  have hc := Own.cell (h := h1) i (by omega)
  refine ⟨g, 0, e1.symm, ?_, ?_⟩
  · rw [Nat.zero_add, hc, List.getElem?_eq_getElem (by simpa using hi)]
    simp
  · obtain ⟨m1, m2⟩ := h2 _ (List.getElem_mem hi)
    exact (h1.only (List.mem_cons_of_mem _ (List.mem_append_left _ m1))).by m2
theorem Own.formU {W0 : Base} {w : World} {v : Value} {zs : List Int} {L : List Rw} (h : Own W0 w (rowU v zs :: L)) : ∃ a k c, v = .slice a k c := by
  obtain ⟨a, c, e, _⟩ := Own.sized (h := (show Own W0 w (⟨5, 1, v, zs.length, bs zs⟩ :: L) from h))
  exact ⟨a, _, c, e⟩
theorem lit_src4 (w : World) (T : TypeId) (a b c d : Value) (ha : a.oneCell' = true) (hb : b.oneCell' = true) (hc : c.oneCell' = true) (hd : d.oneCell' = true) : Src (w.alloc (.cells #[a, b, c, d] T)) (.slice (some ⟨w.heap.size, 0, none⟩) 4 4) 4 [a, b, c, d] := by
  refine .inr ⟨_, _, rfl, fun j u hj => ?_, fun u hu => ?_⟩
  · rw [Addr.add_mid, Nat.zero_add, World.cell?_alloc_new]
    have e : (#[a, b, c, d] : Array Value)[j]? = ([a, b, c, d] : List Value)[j]? := by rw [← Array.getElem?_toList]
    rw [e]; exact hj
  · simp only [List.mem_cons, List.not_mem_nil, or_false] at hu
    rcases hu with rfl | rfl | rfl | rfl <;> assumption
theorem PkRel.step {W0 : Base} {L L1 : List Rw} {ops : List (OpD × List Int)} {k : Nat} {v' va vb vc vd : Value} {w7 : World} {PS : List (Value × List Int)} {bx : Rw} {o : OpD} {d : List Int} (hO : Own W0 w7 (⟨189, 1, v', PS.length + 4, PS.map (·.1) ++ [va, vb, vc, vd]⟩ :: ([rowU vd (sizedL d), rowU vc (sizedL (sb o.q)), rowU vb (sizedL (sb o.p)), rowU va (le4 o.kind), bx] ++ (L1 ++ L))))
    (hk0 : 0 ≤ o.kind) (hk1 : o.kind < 4294967296) (lp : o.p.size < 4294967296) (lq : o.q.size < 4294967296) (ld : d.length < 4294967296) (hd : Byts d) (hps : ∀ p ∈ PS, rowU p.1 p.2 ∈ L1 ∧ Byts p.2) (hall : allOf PS = packsD (ops.take k)) (hlen : PS.length = 4 * k) (hsn : packsD (ops.take (k + 1)) = packsD (ops.take k) ++ packD o d) : PkRel W0 L ops (k + 1) v' w7 := by
  refine ⟨PS ++ [(va, le4 o.kind), (vb, sizedL (sb o.p)), (vc, sizedL (sb o.q)), (vd, sizedL d)], [rowU vd (sizedL d), rowU vc (sizedL (sb o.q)), rowU vb (sizedL (sb o.p)), rowU va (le4 o.kind), bx] ++ L1, ?_, fun p hp => ?_, ?_, by simp [hlen]; omega⟩
  · have e : rowPt v' (PS ++ [(va, le4 o.kind), (vb, sizedL (sb o.p)), (vc, sizedL (sb o.q)), (vd, sizedL d)]) = ⟨189, 1, v', PS.length + 4, PS.map (·.1) ++ [va, vb, vc, vd]⟩ := by
      unfold rowPt; simp
    rw [e, List.append_assoc]; exact hO
  · rcases List.mem_append.1 hp with hp | hp
    · obtain ⟨m1, m2⟩ := hps p hp
      exact ⟨List.mem_append_right _ m1, m2⟩
    · simp only [List.mem_cons, List.not_mem_nil, or_false] at hp
      rcases hp with rfl | rfl | rfl | rfl
      · exact ⟨List.mem_append_left _ (by simp), le4_byts _ hk0 hk1⟩
      · exact ⟨List.mem_append_left _ (by simp), sizedL_byts _ (sb_byts _) (by rw [sb_length]; exact lp)⟩
      · exact ⟨List.mem_append_left _ (by simp), sizedL_byts _ (sb_byts _) (by rw [sb_length]; exact lq)⟩
      · exact ⟨List.mem_append_left _ (by simp), sizedL_byts _ hd ld⟩
  · rw [hsn, ← hall]
    unfold allOf packD
    rw [List.map_append, List.flatten_append]
    simp
set_option maxHeartbeats 8000000 in
theorem pack_ops {W0 : Base} {w : World} {L : List Rw} (hO : Own W0 w L) {a : Option Addr} {ops : List (OpD × List Int)} (hP : PackIn W0 L a ops) (cap : Nat) (hn : ops.length ≤ 100000) :
    Calls Tryz.prog 103 #[.slice a ops.length cap] w fun e w' => ∃ v L1, e = .returned v ∧ Own W0 w' (rowU v (packsD ops) :: (L1 ++ L)) := by
  have HP := Lib.hid hP
  have HR0 := Lib.hid (show PkRel W0 L ops 0 (.slice none 0 0) w from ⟨[], [], Own.nil hO _ _, (fun p hp => by cases hp), rfl, rfl⟩)
  obtain ⟨inf, hi0, hi1, hi2, hi3⟩ := part_info
  have Hi0 := Lib.hid hi0
  have Hi1 := Lib.hid hi1
  have Hi2 := Lib.hid hi2
  have Hi3 := Lib.hid hi3
  clear hi0 hi1 hi2 hi3 hO hP
  go_enter Tryz.func103, Tryz.ntmps103
  go_wp2_with fail
  go_loopw [3, 8] (fun v iv wr => ∃ k : Nat, k ≤ ops.length ∧ iv = .int .i64 k ∧ PkRel W0 L ops k v wr) (fun _ iv _ => ops.length - (intOf iv).toNat)
  case atStart => exact ⟨0, Nat.zero_le _, rfl, HR0.out⟩
  case round =>
    obtain ⟨k, hk, rfl, hR⟩ := hrel
    by_cases hkl : k < ops.length
    · obtain ⟨PS, L1, hO, hps, hall, hlen⟩ := hR
      obtain ⟨o, ho, ⟨g, off, rfl, hr⟩, hmem⟩ : ∃ o, o = ops[k] ∧ (∃ g off, a = some ⟨g, off, none⟩ ∧ wr.rangeAt g (off + k * 4) o.1.cells) ∧ o ∈ ops := ⟨_, rfl, HP.out.at_ wr _ hO (fun x hx => List.mem_cons_of_mem _ (List.mem_append_right _ hx)) k hkl, List.getElem_mem hkl⟩
      have hsn := packsD_snoc ops k hkl
      rw [← ho] at hsn
      obtain ⟨hk0, hk1⟩ := HP.out.kind o hmem
      obtain ⟨hp1, hp2, hp3⟩ := HP.out.len o hmem
      have hdata := fun w' L' (h1 : Own W0 w' L') (h2 : ∀ x ∈ L, x ∈ L') => HP.out.data w' L' h1 h2 o hmem
      have Hdata := Lib.hid hdata
      have Hsn := Lib.hid hsn
      have Hr := Lib.hid hr
      have HO := Lib.hid hO
      have Hone := Lib.hid (op_one o.1)
      have Hps := Lib.hid hps
      have Hall := Lib.hid hall
      have Hlen := Lib.hid hlen
      have Hkl := Lib.hid hkl
      have hb63 : (k : Int) < (ops.length : Int) := by exact_mod_cast hkl
      clear hdata hsn hr hO hps hall hlen ho hmem
      go_wp2_with (first
        | (refine wpList_load_mid rfl 63 (.tmp 10) rfl g (off + k * 4) rfl o.1.cells _ Hr.out Tryz.underlying63 rfl (info_op _) ?_)
        | (refine wpList_store_new rfl 63 (.tmp 5) (.tmp 11) rfl HO.out o.1.cells wr.heap.size rfl rfl rfl rfl (info_op _) Hone.out ?_))
      intro w3 hO3 hlt3
      obtain ⟨H, hH⟩ : ∃ H, wr.heap.size = H := ⟨_, rfl⟩
      rw [hH] at hO3 ⊢
      have HO3 := Lib.hid (show Own W0 w3 (boxOp H o.1 :: rowPt u3 PS :: (L1 ++ L)) from hO3)
      have s0 := box_cells HO3.out (List.mem_cons_self ..)
      clear hO3 Hr HO Hone hH hlt3
      obtain ⟨OA, hOA⟩ : ∃ OA, o.1 = OA := ⟨_, rfl⟩
      obtain ⟨d, hd⟩ : ∃ d, o.2 = d := ⟨_, rfl⟩
      rw [hOA] at hk0 hk1 hp1 hp2 HO3 s0 Hsn Hdata
      rw [hd] at hp3 Hsn Hdata
      obtain ⟨q0, q1, q2, q3⟩ := id s0
      have lp : OA.p.size < 4294967296 := by omega
      have lq : OA.q.size < 4294967296 := by omega
      have ld : d.length < 4294967296 := by omega
      clear hOA hd hp1 hp2 hp3
      have hbd : Byts d := (Hdata.out w3 _ HO3.out (fun x hx => List.mem_cons_of_mem _ (List.mem_cons_of_mem _ (List.mem_append_right _ hx)))).2.1
      have Hstep := Lib.hid (fun (v' va vb vc vd : Value) (w7 : World) (hO7 : Own W0 w7 (⟨189, 1, v', PS.length + 4, PS.map (·.1) ++ [va, vb, vc, vd]⟩ :: ([rowU vd (sizedL d), rowU vc (sizedL (sb OA.q)), rowU vb (sizedL (sb OA.p)), rowU va (le4 OA.kind), boxOp H OA] ++ (L1 ++ L)))) => PkRel.step (ops := ops) (k := k) hO7 hk0 hk1 lp lq ld hbd Hps.out Hall.out Hlen.out Hsn.out)
      have hpl : PS.length ≤ 400000 := by have := Hlen.out; have := Hkl.out; omega
      clear hbd
      obtain ⟨κ, p, q, da, dn, dc⟩ := OA
      dsimp only at hk0 hk1 lp lq s0 q0 q1 q2 q3 Hdata Hstep
      have HD := Lib.hid (show ∀ w' L', Own W0 w' L' → (∀ x ∈ L, x ∈ L') → By w' (.slice da dn dc) d from Hdata.out)
      clear Hdata
      go_wp2_with fail
      go_region_held3 (fun w' : World => w'.cell? ⟨H, 0, none⟩ = some (.int .i64 κ) ∧ w'.cell? ⟨H, 1, none⟩ = some (.string p) ∧ w'.cell? ⟨H, 2, none⟩ = some (.string q) ∧ w'.cell? ⟨H, 3, none⟩ = some (.slice da dn dc)) (first | exact s0 | exact sa | exact sb2 | exact sc | exact sd | exact sy | go_keep) (first
        | (go_at_call 124; refine (num_any κ _ hk0 hk1).mono ?_; rintro e wa ⟨va, rfl, hOa⟩; obtain ⟨aa, na, ca, rfl⟩ := hOa.formU; have HOa := Lib.hid (show Own W0 wa (rowU (.slice aa na ca) (le4 κ) :: boxOp H ⟨κ, p, q, da, dn, dc⟩ :: rowPt u3 PS :: (L1 ++ L)) from (by first | exact HO3.out.drew.join hOa | exact HO3.out.join hOa)); have sa := box_cells HOa.out (by simp : boxOp H ⟨κ, p, q, da, dn, dc⟩ ∈ _); obtain ⟨qa0, qa1, qa2, qa3⟩ := id sa; clear hOa)
        | (go_at_call 123; refine (text_any p _ lp).mono ?_; rintro e wb ⟨vb, rfl, hOb⟩; obtain ⟨ab, nb, cb, rfl⟩ := hOb.formU; have HOb := Lib.hid (show Own W0 wb (rowU (.slice ab nb cb) (sizedL (sb p)) :: rowU (.slice aa na ca) (le4 κ) :: boxOp H ⟨κ, p, q, da, dn, dc⟩ :: rowPt u3 PS :: (L1 ++ L)) from (by first | exact HOa.out.drew.join hOb | exact HOa.out.join hOb)); have sb2 := box_cells HOb.out (by simp : boxOp H ⟨κ, p, q, da, dn, dc⟩ ∈ _); obtain ⟨qb0, qb1, qb2, qb3⟩ := id sb2; clear hOb)
        | (go_at_call 123; refine (text_any q _ lq).mono ?_; rintro e wc ⟨vc, rfl, hOc⟩; obtain ⟨ac, nc, cc, rfl⟩ := hOc.formU; have HOc := Lib.hid (show Own W0 wc (rowU (.slice ac nc cc) (sizedL (sb q)) :: rowU (.slice ab nb cb) (sizedL (sb p)) :: rowU (.slice aa na ca) (le4 κ) :: boxOp H ⟨κ, p, q, da, dn, dc⟩ :: rowPt u3 PS :: (L1 ++ L)) from (by first | exact HOb.out.drew.join hOc | exact HOb.out.join hOc)); have sc := box_cells HOc.out (by simp : boxOp H ⟨κ, p, q, da, dn, dc⟩ ∈ _); have hbc := HD.out wc _ HOc.out (by intro x hx; simp [hx]); obtain ⟨qc0, qc1, qc2, qc3⟩ := id sc; clear hOc)
        | (go_at_call 146; refine (raw_any _ d _ ?_ ld).mono ?_; exact hbc; rintro e wd ⟨vd, rfl, hOd⟩; obtain ⟨ad, nd, cd, rfl⟩ := hOd.formU; have HOd := Lib.hid (show Own W0 wd (rowU (.slice ad nd cd) (sizedL d) :: rowU (.slice ac nc cc) (sizedL (sb q)) :: rowU (.slice ab nb cb) (sizedL (sb p)) :: rowU (.slice aa na ca) (le4 κ) :: boxOp H ⟨κ, p, q, da, dn, dc⟩ :: rowPt u3 PS :: (L1 ++ L)) from (by first | exact HOc.out.drew.join hOd | exact HOc.out.join hOd)); have sd := box_cells HOd.out (by simp : boxOp H ⟨κ, p, q, da, dn, dc⟩ ∈ _); obtain ⟨qd0, qd1, qd2, qd3⟩ := id sd; have HP4 := Lib.hid (show Own W0 wd (⟨189, 1, u3, PS.length, PS.map (·.1)⟩ :: ([rowU (.slice ad nd cd) (sizedL d), rowU (.slice ac nc cc) (sizedL (sb q)), rowU (.slice ab nb cb) (sizedL (sb p)), rowU (.slice aa na ca) (le4 κ), boxOp H ⟨κ, p, q, da, dn, dc⟩] ++ (L1 ++ L))) from HOd.out.perm (List.perm_middle (l₁ := [rowU (.slice ad nd cd) (sizedL d), rowU (.slice ac nc cc) (sizedL (sb q)), rowU (.slice ab nb cb) (sizedL (sb p)), rowU (.slice aa na ca) (le4 κ), boxOp H ⟨κ, p, q, da, dn, dc⟩]))); clear hOd)
        | (refine step_append_src (by rfl) (.tmp 12) (.tmp 25) 213 (by rfl) u3 PS.length (PS.map (·.1)) _ 4 [.slice aa na ca, .slice ab nb cb, .slice ac nc cc, .slice ad nd cd] (by rfl) (by rfl) (by first | exact HP4.out.alloc _ | exact HP4.out.drew.alloc _ | exact (HP4.out.alloc _).drew) inf (.slice none 0 0) 24 Tryz.underlying213 Hi0.out Hi1.out Hi2.out Hi3.out rfl (by decide) (lit_src4 _ _ _ _ _ _ rfl rfl rfl rfl) rfl (by unfold maxLen; omega) (by omega) ?_; intro v7 w7 hO7; have HR7 := Lib.hid (Hstep.out _ _ _ _ _ _ hO7); have sy := box_cells hO7 (by simp : boxOp H ⟨κ, p, q, da, dn, dc⟩ ∈ _); clear hO7))
      all_goals clear HP4 HOc HOb HOa HO3 Hstep
      all_goals go_wp2_with fail
      all_goals go_roundw
      case rel => exact ⟨k + 1, by have := Hkl.out; omega, by go_num, HR7.out⟩
      case measure => have := Hkl.out; simp [intOf]; omega
    · have hke : k = ops.length := by omega
      subst hke
      obtain ⟨PS, L1, hO, _⟩ := id hR
      obtain ⟨a2, c2, PS2, rfl, hparts, hall, hl2⟩ := hR.parts
      rw [List.take_length] at hall
      have hpl := packsD_len ops HP.out.len
      have hpk := pack_any a2 c2 PS2 wr hparts (by unfold maxLen; omega) (by rw [hall]; omega)
      rw [hall] at hpk
      have HO := Lib.hid hO.tail
      have hb63 : ¬ ((ops.length : Int) < (ops.length : Int)) := Int.lt_irrefl _
      clear hparts hR hO hl2 hpl
      go_wp2_with fail
      refine hpk.mono ?_
      rintro e w5 ⟨v5, rfl, hO5⟩
      have HO5 := Lib.hid (HO.out.join hO5)
      clear hO5 hpk
      go_wp2_with fail
      go_ret
      exact ⟨_, L1, rfl, HO5.out⟩
end Go.Proofs.YtlkgmhlaoahdlaaGreatDoor
end
