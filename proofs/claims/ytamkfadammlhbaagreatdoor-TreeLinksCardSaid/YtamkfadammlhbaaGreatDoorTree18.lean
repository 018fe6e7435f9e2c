/- do, where all goes well. -/
import Derived.Test.YtamkfadammlhbaaGreatDoorTree17
namespace Go.Proofs.YtamkfadammlhbaaGreatDoor
open Go.RowKit
open Go.ChangeMaps (setBlock)
set_option linter.unusedVariables false
set_option linter.unusedSimpArgs false
set_option maxRecDepth 100000

theorem DoL.ret {w0 w w' : World} {S : Blocks} {L : List Rw} {t : Nat} {T : Tr} {R : Tr → Prop} {r : Value} {e : Ending} (h : DoL w0 S L t T w R r e w') (r' : Value) : e = .returned r ∧ DoL w0 S L t T w R r' (.returned r') w' := by
  obtain ⟨S', L', T', h1, h2, h3, h4, h5, h6⟩ := h
  exact ⟨h1, S', L', T', rfl, h2, h3, h4, h5, h6⟩
theorem one_box {w0 w : World} {S : Blocks} {L : List Rw} {t : Nat} {T : Tr} (hO : Own ⟨w0, S⟩ w L) (H : Tree S (Pc L) t T) (P : Obj) : ∃ w1 S2, w1 = w.alloc P ∧ w1.heap.size = w.heap.size + 1 ∧ Own ⟨w0, S2⟩ w1 L ∧ Tree S2 (Pc L) t T ∧ (w.heap.size, P) ∈ S2 ∧ (∀ b x, (b, x) ∈ S → (b, x) ∈ S2) ∧ (∀ b x, (b, x) ∈ S → b < w.heap.size) ∧ Below w.heap.size w w1 :=
  ⟨_, (w.heap.size, P) :: S, rfl, by simp, hO.newB P, H.mono (fun b x _ hx => List.mem_cons_of_mem _ hx) (fun _ _ h => h), List.mem_cons_self .., fun b x hb => List.mem_cons_of_mem _ hb, fun b x hb => (hO.atLt hb).2, (Below.refl _ w).alloc (Nat.le_refl _) _⟩
set_option maxHeartbeats 4000000 in
theorem do_grow0 {w0 w : World} {S : Blocks} {L : List Rw} {t : Nat} {T : Tr} (hO : Own ⟨w0, S⟩ w L) (H : Tree S (Pc L) t T) (hm : Mx w) (p q : ByteArray) (hp : p.size ≤ maxLen) {va : Option Addr} {vn vc : Nat} (hvn : vn ≤ 3500)
    {j : Int} {nd : Nd} {k : Nat} {z : List UInt8} (hc : placeT T p.data.toList = (0, some (j, nd, z))) (ha : At T j nd k) (hx : look nd.kids (toB z) = none) {R : Tr → Prop} 
    (hcall : ∀ S' w', Own ⟨w0, S'⟩ w' L → Tree S' (Pc L) t T → (∀ b x, (b, x) ∈ S → (b, x) ∈ S') → Mx w' → Calls Tryz.prog 66 #[.pointer (some ⟨t, 0, none⟩), .agg #[.pointer (some ⟨nd.b, 0, none⟩), .string (toB z)], .agg (opL 0 p q (.slice va vn vc)).toArray] w' (DoL w0 S' L t T w' R (.tuple #[]))) :
    Calls Tryz.prog 34 #[.pointer (some ⟨t, 0, none⟩), .agg (opL 0 p q (.slice va vn vc)).toArray] w (DoL w0 S L t T w R (.int .i64 0)) := by
  obtain ⟨w1, S2, hw1, hsz, hO2, H1, m1, hsub, hlt, hB1⟩ := one_box hO H (.cells #[.int .i64 0, .string p, .string q, .slice va vn vc] 38)
  have o0 : w1.cell? ⟨w.heap.size, 0, none⟩ = some (.int .i64 0) := by rw [hO2.cellB m1]; rfl
  have o1 : w1.cell? ⟨w.heap.size, 1, none⟩ = some (.string p) := by rw [hO2.cellB m1]; rfl
  have hpl := place_any (H1.at_.inWorld hO2) H.good p hp (hm.later hB1)
  rw [hc] at hpl
  have HO2 := Lib.hid hO2
  have hgen : ∀ w2, Own ⟨w0, S2⟩ w2 L → w.heap.size ≤ w2.heap.size → Mx w2 → (w2.alloc (boxP nd (toB z))).cell? ⟨w.heap.size, 3, none⟩ = some (.slice va vn vc) ∧
      ((w2.alloc (boxP nd (toB z))).drew.cell? ⟨w2.heap.size, 0, none⟩ = some (.pointer (some ⟨nd.b, 0, none⟩)) ∧ (w2.alloc (boxP nd (toB z))).drew.cell? ⟨w2.heap.size, 1, none⟩ = some (.string (toB z))) ∧
      ((w2.alloc (boxP nd (toB z))).drew.cell? ⟨w.heap.size, 0, none⟩ = some (.int .i64 0) ∧ (w2.alloc (boxP nd (toB z))).drew.cell? ⟨w.heap.size, 1, none⟩ = some (.string p) ∧ (w2.alloc (boxP nd (toB z))).drew.cell? ⟨w.heap.size, 2, none⟩ = some (.string q) ∧ (w2.alloc (boxP nd (toB z))).drew.cell? ⟨w.heap.size, 3, none⟩ = some (.slice va vn vc)) ∧
      (w2.alloc (boxP nd (toB z))).drew.cell? ⟨nd.b, 0, none⟩ = some (.map (some k)) ∧
      (Instr.lookup 84 (.map (some k)) (.string (toB z)) true).run Tryz.prog (w2.alloc (boxP nd (toB z))).drew = .ok (.tuple #[.int .i64 0, .bool false]) (w2.alloc (boxP nd (toB z))).drew ∧
      Calls Tryz.prog 66 #[.pointer (some ⟨t, 0, none⟩), .agg #[.pointer (some ⟨nd.b, 0, none⟩), .string (toB z)], .agg (opL 0 p q (.slice va vn vc)).toArray] (w2.alloc (boxP nd (toB z))).drew (fun e w' => e = .returned (.tuple #[]) ∧ DoL w0 S L t T w R (.int .i64 0) (.returned (.int .i64 0)) w') := by
    intro w2 h2 h3 hm2
    have h4 := h2.alloc (boxP nd (toB z))
    have h5 := h4.drew
    have b0 : (w2.alloc (boxP nd (toB z))).drew.cell? ⟨w2.heap.size, 0, none⟩ = some (.pointer (some ⟨nd.b, 0, none⟩)) := by show (w2.alloc _).cell? _ = _; rw [World.cell?_alloc_new]; rfl
    have b1 : (w2.alloc (boxP nd (toB z))).drew.cell? ⟨w2.heap.size, 1, none⟩ = some (.string (toB z)) := by show (w2.alloc _).cell? _ = _; rw [World.cell?_alloc_new]; rfl
    have hNW := (H1.at_.inWorld h5).node _ (look_mem ha.there)
    obtain ⟨c0, _, _⟩ := hNW.at0
    rw [ha.dir] at c0
    have hl := hNW.look ha.dir (toB z)
    rw [hx] at hl
    dsimp only [Option.getD_none, Option.isSome_none] at hl
    refine ⟨by rw [h4.cellB m1]; rfl, ⟨b0, b1⟩, ⟨by rw [h5.cellB m1]; rfl, by rw [h5.cellB m1]; rfl, by rw [h5.cellB m1]; rfl, by rw [h5.cellB m1]; rfl⟩, c0, hl, (hcall S2 _ h5 H1 hsub (hm2.later (((Below.refl _ w2).alloc (Nat.le_refl _) _).drew))).mono fun e w' hd => ?_⟩
    obtain ⟨e1, hd2⟩ := hd.ret (.int .i64 0)
    subst e1
    exact ⟨rfl, hd2.more hsub (by show _ ≤ (w2.alloc _).heap.size; simp; omega) hlt⟩
  have hsz1 : w.heap.size ≤ w1.heap.size := by omega
  have hm1 := hm.later hB1
  rw [hw1] at o0 o1 hpl
  clear hO H hO2 H1 m1 hsub hlt hsz hc hm hB1 hcall ha hx
  dsimp only [placeL] at hpl
  go_enter Tryz.func34, Tryz.ntmps34
  go_wp2_with fail
  refine hpl.mono ?_
  rintro e w2 ⟨rfl, hb⟩
  rw [← hw1] at hb
  have hO3 := HO2.out.later hb
  obtain ⟨x3, ⟨b0, b1⟩, ⟨y0, y1, y2, y3⟩, n0, hl, hcl⟩ := hgen w2 hO3 (Nat.le_trans hsz1 hb.size) (hm1.later hb)
  clear o0 o1 hpl hw1 hb hO3 hgen hsz1 HO2 hm1
  go_wp2_with fail
  go_region
  go_wp2_with fail
  refine hcl.mono ?_
  rintro e w3 ⟨rfl, hD⟩
  have HD := Lib.hid hD
  clear hD hcl
  go_wp2_with fail
  go_ret
  exact HD.out
set_option maxHeartbeats 4000000 in
theorem do_grow2 {w0 w : World} {S : Blocks} {L : List Rw} {t : Nat} {T : Tr} (hO : Own ⟨w0, S⟩ w L) (H : Tree S (Pc L) t T) (hm : Mx w) (p q : ByteArray) (hp : p.size ≤ maxLen) {va : Option Addr} {vn vc : Nat} (hvn : vn ≤ 3500)
    {j : Int} {nd : Nd} {k : Nat} {z : List UInt8} (hc : placeT T p.data.toList = (0, some (j, nd, z))) (ha : At T j nd k) (hx : look nd.kids (toB z) = none) {R : Tr → Prop} 
    (hcall : ∀ S' w', Own ⟨w0, S'⟩ w' L → Tree S' (Pc L) t T → (∀ b x, (b, x) ∈ S → (b, x) ∈ S') → Mx w' → Calls Tryz.prog 66 #[.pointer (some ⟨t, 0, none⟩), .agg #[.pointer (some ⟨nd.b, 0, none⟩), .string (toB z)], .agg (opL 2 p q (.slice va vn vc)).toArray] w' (DoL w0 S' L t T w' R (.tuple #[]))) :
    Calls Tryz.prog 34 #[.pointer (some ⟨t, 0, none⟩), .agg (opL 2 p q (.slice va vn vc)).toArray] w (DoL w0 S L t T w R (.int .i64 0)) := by
  obtain ⟨w1, S2, hw1, hsz, hO2, H1, m1, hsub, hlt, hB1⟩ := one_box hO H (.cells #[.int .i64 2, .string p, .string q, .slice va vn vc] 38)
  have o0 : w1.cell? ⟨w.heap.size, 0, none⟩ = some (.int .i64 2) := by rw [hO2.cellB m1]; rfl
  have o1 : w1.cell? ⟨w.heap.size, 1, none⟩ = some (.string p) := by rw [hO2.cellB m1]; rfl
  have hpl := place_any (H1.at_.inWorld hO2) H.good p hp (hm.later hB1)
  rw [hc] at hpl
  have HO2 := Lib.hid hO2
  have hgen : ∀ w2, Own ⟨w0, S2⟩ w2 L → w.heap.size ≤ w2.heap.size → Mx w2 → (w2.alloc (boxP nd (toB z))).cell? ⟨w.heap.size, 3, none⟩ = some (.slice va vn vc) ∧
      ((w2.alloc (boxP nd (toB z))).drew.cell? ⟨w2.heap.size, 0, none⟩ = some (.pointer (some ⟨nd.b, 0, none⟩)) ∧ (w2.alloc (boxP nd (toB z))).drew.cell? ⟨w2.heap.size, 1, none⟩ = some (.string (toB z))) ∧
      ((w2.alloc (boxP nd (toB z))).drew.cell? ⟨w.heap.size, 0, none⟩ = some (.int .i64 2) ∧ (w2.alloc (boxP nd (toB z))).drew.cell? ⟨w.heap.size, 1, none⟩ = some (.string p) ∧ (w2.alloc (boxP nd (toB z))).drew.cell? ⟨w.heap.size, 2, none⟩ = some (.string q) ∧ (w2.alloc (boxP nd (toB z))).drew.cell? ⟨w.heap.size, 3, none⟩ = some (.slice va vn vc)) ∧
      (w2.alloc (boxP nd (toB z))).drew.cell? ⟨nd.b, 0, none⟩ = some (.map (some k)) ∧
      (Instr.lookup 84 (.map (some k)) (.string (toB z)) true).run Tryz.prog (w2.alloc (boxP nd (toB z))).drew = .ok (.tuple #[.int .i64 0, .bool false]) (w2.alloc (boxP nd (toB z))).drew ∧
      Calls Tryz.prog 66 #[.pointer (some ⟨t, 0, none⟩), .agg #[.pointer (some ⟨nd.b, 0, none⟩), .string (toB z)], .agg (opL 2 p q (.slice va vn vc)).toArray] (w2.alloc (boxP nd (toB z))).drew (fun e w' => e = .returned (.tuple #[]) ∧ DoL w0 S L t T w R (.int .i64 0) (.returned (.int .i64 0)) w') := by
    intro w2 h2 h3 hm2
    have h4 := h2.alloc (boxP nd (toB z))
    have h5 := h4.drew
    have b0 : (w2.alloc (boxP nd (toB z))).drew.cell? ⟨w2.heap.size, 0, none⟩ = some (.pointer (some ⟨nd.b, 0, none⟩)) := by show (w2.alloc _).cell? _ = _; rw [World.cell?_alloc_new]; rfl
    have b1 : (w2.alloc (boxP nd (toB z))).drew.cell? ⟨w2.heap.size, 1, none⟩ = some (.string (toB z)) := by show (w2.alloc _).cell? _ = _; rw [World.cell?_alloc_new]; rfl
    have hNW := (H1.at_.inWorld h5).node _ (look_mem ha.there)
    obtain ⟨c0, _, _⟩ := hNW.at0
    rw [ha.dir] at c0
    have hl := hNW.look ha.dir (toB z)
    rw [hx] at hl
    dsimp only [Option.getD_none, Option.isSome_none] at hl
    refine ⟨by rw [h4.cellB m1]; rfl, ⟨b0, b1⟩, ⟨by rw [h5.cellB m1]; rfl, by rw [h5.cellB m1]; rfl, by rw [h5.cellB m1]; rfl, by rw [h5.cellB m1]; rfl⟩, c0, hl, (hcall S2 _ h5 H1 hsub (hm2.later (((Below.refl _ w2).alloc (Nat.le_refl _) _).drew))).mono fun e w' hd => ?_⟩
    obtain ⟨e1, hd2⟩ := hd.ret (.int .i64 0)
    subst e1
    exact ⟨rfl, hd2.more hsub (by show _ ≤ (w2.alloc _).heap.size; simp; omega) hlt⟩
  have hsz1 : w.heap.size ≤ w1.heap.size := by omega
  have hm1 := hm.later hB1
  rw [hw1] at o0 o1 hpl
  clear hO H hO2 H1 m1 hsub hlt hsz hc hm hB1 hcall ha hx
  dsimp only [placeL] at hpl
  go_enter Tryz.func34, Tryz.ntmps34
  go_wp2_with fail
  refine hpl.mono ?_
  rintro e w2 ⟨rfl, hb⟩
  rw [← hw1] at hb
  have hO3 := HO2.out.later hb
  obtain ⟨x3, ⟨b0, b1⟩, ⟨y0, y1, y2, y3⟩, n0, hl, hcl⟩ := hgen w2 hO3 (Nat.le_trans hsz1 hb.size) (hm1.later hb)
  clear o0 o1 hpl hw1 hb hO3 hgen hsz1 HO2 hm1
  go_wp2_with fail
  go_region
  go_wp2_with fail
  refine hcl.mono ?_
  rintro e w3 ⟨rfl, hD⟩
  have HD := Lib.hid hD
  clear hD hcl
  go_wp2_with fail
  go_ret
  exact HD.out
set_option maxHeartbeats 4000000 in
theorem do_turn3 {w0 w : World} {S : Blocks} {L : List Rw} {t : Nat} {T : Tr} (hO : Own ⟨w0, S⟩ w L) (H : Tree S (Pc L) t T) (hm : Mx w) (p q : ByteArray) (hp : p.size ≤ maxLen) {va : Option Addr} {vn vc : Nat} (hvn : vn ≤ 3500)
    {j : Int} {nd : Nd} {k : Nat} {z : List UInt8} (hc : placeT T p.data.toList = (0, some (j, nd, z))) (ha : At T j nd k) {i : Int} {f : Nd} (hx : look nd.kids (toB z) = some i) (g : Fl T i f) {R : Tr → Prop} {c : Int}
    (hcall : ∀ S' w', Own ⟨w0, S'⟩ w' L → Tree S' (Pc L) t T → (∀ b x, (b, x) ∈ S → (b, x) ∈ S') → Mx w' → Calls Tryz.prog 68 #[.pointer (some ⟨t, 0, none⟩), .agg #[.pointer (some ⟨nd.b, 0, none⟩), .string (toB z)], .int .i64 i, .agg (opL 3 p q (.slice va vn vc)).toArray] w' (DoL w0 S' L t T w' R (.int .i64 c))) :
    Calls Tryz.prog 34 #[.pointer (some ⟨t, 0, none⟩), .agg (opL 3 p q (.slice va vn vc)).toArray] w (DoL w0 S L t T w R (.int .i64 c)) := by
  obtain ⟨w1, S2, hw1, hsz, hO2, H1, m1, hsub, hlt, hB1⟩ := one_box hO H (.cells #[.int .i64 3, .string p, .string q, .slice va vn vc] 38)
  have o0 : w1.cell? ⟨w.heap.size, 0, none⟩ = some (.int .i64 3) := by rw [hO2.cellB m1]; rfl
  have o1 : w1.cell? ⟨w.heap.size, 1, none⟩ = some (.string p) := by rw [hO2.cellB m1]; rfl
  have hpl := place_any (H1.at_.inWorld hO2) H.good p hp (hm.later hB1)
  rw [hc] at hpl
  have HO2 := Lib.hid hO2
  have hgen : ∀ w2, Own ⟨w0, S2⟩ w2 L → w.heap.size ≤ w2.heap.size → Mx w2 → (w2.alloc (boxP nd (toB z))).cell? ⟨w.heap.size, 3, none⟩ = some (.slice va vn vc) ∧
      ((w2.alloc (boxP nd (toB z))).drew.cell? ⟨w2.heap.size, 0, none⟩ = some (.pointer (some ⟨nd.b, 0, none⟩)) ∧ (w2.alloc (boxP nd (toB z))).drew.cell? ⟨w2.heap.size, 1, none⟩ = some (.string (toB z))) ∧
      ((w2.alloc (boxP nd (toB z))).drew.cell? ⟨w.heap.size, 0, none⟩ = some (.int .i64 3) ∧ (w2.alloc (boxP nd (toB z))).drew.cell? ⟨w.heap.size, 1, none⟩ = some (.string p) ∧ (w2.alloc (boxP nd (toB z))).drew.cell? ⟨w.heap.size, 2, none⟩ = some (.string q) ∧ (w2.alloc (boxP nd (toB z))).drew.cell? ⟨w.heap.size, 3, none⟩ = some (.slice va vn vc)) ∧
      (w2.alloc (boxP nd (toB z))).drew.cell? ⟨nd.b, 0, none⟩ = some (.map (some k)) ∧
      ((Instr.lookup 84 (.map (some k)) (.string (toB z)) true).run Tryz.prog (w2.alloc (boxP nd (toB z))).drew = .ok (.tuple #[.int .i64 i, .bool true]) (w2.alloc (boxP nd (toB z))).drew ∧ (w2.alloc (boxP nd (toB z))).drew.cell? ⟨t, 2, none⟩ = some (.map (some T.bm)) ∧ (Instr.lookup 73 (.map (some T.bm)) (.int .i64 i) false).run Tryz.prog (w2.alloc (boxP nd (toB z))).drew = .ok (.pointer (some ⟨f.b, 0, none⟩)) (w2.alloc (boxP nd (toB z))).drew ∧ Calls Tryz.prog 58 #[.pointer (some ⟨f.b, 0, none⟩)] (w2.alloc (boxP nd (toB z))).drew (fun e w' => e = .returned (.bool false) ∧ (w2.alloc (boxP nd (toB z))).drew = w')) ∧
      Calls Tryz.prog 68 #[.pointer (some ⟨t, 0, none⟩), .agg #[.pointer (some ⟨nd.b, 0, none⟩), .string (toB z)], .int .i64 i, .agg (opL 3 p q (.slice va vn vc)).toArray] (w2.alloc (boxP nd (toB z))).drew (fun e w' => e = .returned (.int .i64 c) ∧ DoL w0 S L t T w R (.int .i64 c) (.returned (.int .i64 c)) w') := by
    intro w2 h2 h3 hm2
    have h4 := h2.alloc (boxP nd (toB z))
    have h5 := h4.drew
    have b0 : (w2.alloc (boxP nd (toB z))).drew.cell? ⟨w2.heap.size, 0, none⟩ = some (.pointer (some ⟨nd.b, 0, none⟩)) := by show (w2.alloc _).cell? _ = _; rw [World.cell?_alloc_new]; rfl
    have b1 : (w2.alloc (boxP nd (toB z))).drew.cell? ⟨w2.heap.size, 1, none⟩ = some (.string (toB z)) := by show (w2.alloc _).cell? _ = _; rw [World.cell?_alloc_new]; rfl
    have hNW := (H1.at_.inWorld h5).node _ (look_mem ha.there)
    obtain ⟨c0, _, _⟩ := hNW.at0
    rw [ha.dir] at c0
    have hl := hNW.look ha.dir (toB z)
    rw [hx] at hl
    dsimp only [Option.getD_some, Option.isSome_some] at hl
    have hl2 := (H1.at_.inWorld h5).look i
    rw [g.there] at hl2
    dsimp only [ptrOf] at hl2
    have hdir := dir_any ((H1.at_.inWorld h5).node _ (look_mem g.there))
    rw [show f.k.isSome = false by rw [g.file]; rfl] at hdir
    refine ⟨by rw [h4.cellB m1]; rfl, ⟨b0, b1⟩, ⟨by rw [h5.cellB m1]; rfl, by rw [h5.cellB m1]; rfl, by rw [h5.cellB m1]; rfl, by rw [h5.cellB m1]; rfl⟩, c0, ⟨hl, (H1.at_.inWorld h5).at0.2.2, hl2, hdir⟩, (hcall S2 _ h5 H1 hsub (hm2.later (((Below.refl _ w2).alloc (Nat.le_refl _) _).drew))).mono fun e w' hd => ?_⟩
    obtain ⟨e1, hd2⟩ := hd.ret (.int .i64 c)
    subst e1
    exact ⟨rfl, hd2.more hsub (by show _ ≤ (w2.alloc _).heap.size; simp; omega) hlt⟩
  have hsz1 : w.heap.size ≤ w1.heap.size := by omega
  have hm1 := hm.later hB1
  rw [hw1] at o0 o1 hpl
  clear hO H hO2 H1 m1 hsub hlt hsz hc hm hB1 hcall ha hx g
  dsimp only [placeL] at hpl
  go_enter Tryz.func34, Tryz.ntmps34
  go_wp2_with fail
  refine hpl.mono ?_
  rintro e w2 ⟨rfl, hb⟩
  rw [← hw1] at hb
  have hO3 := HO2.out.later hb
  obtain ⟨x3, ⟨b0, b1⟩, ⟨y0, y1, y2, y3⟩, n0, ⟨hl, t2, hl2, hdir⟩, hcl⟩ := hgen w2 hO3 (Nat.le_trans hsz1 hb.size) (hm1.later hb)
  clear o0 o1 hpl hw1 hb hO3 hgen hsz1 HO2 hm1
  go_wp2_with fail
  go_region
  go_wp2_with (go_at_call 58; refine hdir.mono ?_; rintro e w' ⟨rfl, rfl⟩)
  refine hcl.mono ?_
  rintro e w3 ⟨rfl, hD⟩
  have HD := Lib.hid hD
  clear hD hcl
  go_wp2_with fail
  go_ret
  exact HD.out
set_option maxHeartbeats 4000000 in
theorem do_turn4 {w0 w : World} {S : Blocks} {L : List Rw} {t : Nat} {T : Tr} (hO : Own ⟨w0, S⟩ w L) (H : Tree S (Pc L) t T) (hm : Mx w) (p q : ByteArray) (hp : p.size ≤ maxLen) {va : Option Addr} {vn vc : Nat} (hvn : vn ≤ 3500)
    {j : Int} {nd : Nd} {k : Nat} {z : List UInt8} (hc : placeT T p.data.toList = (0, some (j, nd, z))) (ha : At T j nd k) {i : Int} {f : Nd} (hx : look nd.kids (toB z) = some i) (g : Fl T i f) {R : Tr → Prop} {c : Int}
    (hcall : ∀ S' w', Own ⟨w0, S'⟩ w' L → Tree S' (Pc L) t T → (∀ b x, (b, x) ∈ S → (b, x) ∈ S') → Mx w' → Calls Tryz.prog 68 #[.pointer (some ⟨t, 0, none⟩), .agg #[.pointer (some ⟨nd.b, 0, none⟩), .string (toB z)], .int .i64 i, .agg (opL 4 p q (.slice va vn vc)).toArray] w' (DoL w0 S' L t T w' R (.int .i64 c))) :
    Calls Tryz.prog 34 #[.pointer (some ⟨t, 0, none⟩), .agg (opL 4 p q (.slice va vn vc)).toArray] w (DoL w0 S L t T w R (.int .i64 c)) := by
  obtain ⟨w1, S2, hw1, hsz, hO2, H1, m1, hsub, hlt, hB1⟩ := one_box hO H (.cells #[.int .i64 4, .string p, .string q, .slice va vn vc] 38)
  have o0 : w1.cell? ⟨w.heap.size, 0, none⟩ = some (.int .i64 4) := by rw [hO2.cellB m1]; rfl
  have o1 : w1.cell? ⟨w.heap.size, 1, none⟩ = some (.string p) := by rw [hO2.cellB m1]; rfl
  have hpl := place_any (H1.at_.inWorld hO2) H.good p hp (hm.later hB1)
  rw [hc] at hpl
  have HO2 := Lib.hid hO2
  have hgen : ∀ w2, Own ⟨w0, S2⟩ w2 L → w.heap.size ≤ w2.heap.size → Mx w2 → (w2.alloc (boxP nd (toB z))).cell? ⟨w.heap.size, 3, none⟩ = some (.slice va vn vc) ∧
      ((w2.alloc (boxP nd (toB z))).drew.cell? ⟨w2.heap.size, 0, none⟩ = some (.pointer (some ⟨nd.b, 0, none⟩)) ∧ (w2.alloc (boxP nd (toB z))).drew.cell? ⟨w2.heap.size, 1, none⟩ = some (.string (toB z))) ∧
      ((w2.alloc (boxP nd (toB z))).drew.cell? ⟨w.heap.size, 0, none⟩ = some (.int .i64 4) ∧ (w2.alloc (boxP nd (toB z))).drew.cell? ⟨w.heap.size, 1, none⟩ = some (.string p) ∧ (w2.alloc (boxP nd (toB z))).drew.cell? ⟨w.heap.size, 2, none⟩ = some (.string q) ∧ (w2.alloc (boxP nd (toB z))).drew.cell? ⟨w.heap.size, 3, none⟩ = some (.slice va vn vc)) ∧
      (w2.alloc (boxP nd (toB z))).drew.cell? ⟨nd.b, 0, none⟩ = some (.map (some k)) ∧
      ((Instr.lookup 84 (.map (some k)) (.string (toB z)) true).run Tryz.prog (w2.alloc (boxP nd (toB z))).drew = .ok (.tuple #[.int .i64 i, .bool true]) (w2.alloc (boxP nd (toB z))).drew ∧ (w2.alloc (boxP nd (toB z))).drew.cell? ⟨t, 2, none⟩ = some (.map (some T.bm)) ∧ (Instr.lookup 73 (.map (some T.bm)) (.int .i64 i) false).run Tryz.prog (w2.alloc (boxP nd (toB z))).drew = .ok (.pointer (some ⟨f.b, 0, none⟩)) (w2.alloc (boxP nd (toB z))).drew ∧ Calls Tryz.prog 58 #[.pointer (some ⟨f.b, 0, none⟩)] (w2.alloc (boxP nd (toB z))).drew (fun e w' => e = .returned (.bool false) ∧ (w2.alloc (boxP nd (toB z))).drew = w')) ∧
      Calls Tryz.prog 68 #[.pointer (some ⟨t, 0, none⟩), .agg #[.pointer (some ⟨nd.b, 0, none⟩), .string (toB z)], .int .i64 i, .agg (opL 4 p q (.slice va vn vc)).toArray] (w2.alloc (boxP nd (toB z))).drew (fun e w' => e = .returned (.int .i64 c) ∧ DoL w0 S L t T w R (.int .i64 c) (.returned (.int .i64 c)) w') := by
    intro w2 h2 h3 hm2
    have h4 := h2.alloc (boxP nd (toB z))
    have h5 := h4.drew
    have b0 : (w2.alloc (boxP nd (toB z))).drew.cell? ⟨w2.heap.size, 0, none⟩ = some (.pointer (some ⟨nd.b, 0, none⟩)) := by show (w2.alloc _).cell? _ = _; rw [World.cell?_alloc_new]; rfl
    have b1 : (w2.alloc (boxP nd (toB z))).drew.cell? ⟨w2.heap.size, 1, none⟩ = some (.string (toB z)) := by show (w2.alloc _).cell? _ = _; rw [World.cell?_alloc_new]; rfl
    have hNW := (H1.at_.inWorld h5).node _ (look_mem ha.there)
    obtain ⟨c0, _, _⟩ := hNW.at0
    rw [ha.dir] at c0
    have hl := hNW.look ha.dir (toB z)
    rw [hx] at hl
    dsimp only [Option.getD_some, Option.isSome_some] at hl
    have hl2 := (H1.at_.inWorld h5).look i
    rw [g.there] at hl2
    dsimp only [ptrOf] at hl2
    have hdir := dir_any ((H1.at_.inWorld h5).node _ (look_mem g.there))
    rw [show f.k.isSome = false by rw [g.file]; rfl] at hdir
    refine ⟨by rw [h4.cellB m1]; rfl, ⟨b0, b1⟩, ⟨by rw [h5.cellB m1]; rfl, by rw [h5.cellB m1]; rfl, by rw [h5.cellB m1]; rfl, by rw [h5.cellB m1]; rfl⟩, c0, ⟨hl, (H1.at_.inWorld h5).at0.2.2, hl2, hdir⟩, (hcall S2 _ h5 H1 hsub (hm2.later (((Below.refl _ w2).alloc (Nat.le_refl _) _).drew))).mono fun e w' hd => ?_⟩
    obtain ⟨e1, hd2⟩ := hd.ret (.int .i64 c)
    subst e1
    exact ⟨rfl, hd2.more hsub (by show _ ≤ (w2.alloc _).heap.size; simp; omega) hlt⟩
  have hsz1 : w.heap.size ≤ w1.heap.size := by omega
  have hm1 := hm.later hB1
  rw [hw1] at o0 o1 hpl
  clear hO H hO2 H1 m1 hsub hlt hsz hc hm hB1 hcall ha hx g
  dsimp only [placeL] at hpl
  go_enter Tryz.func34, Tryz.ntmps34
  go_wp2_with fail
  refine hpl.mono ?_
  rintro e w2 ⟨rfl, hb⟩
  rw [← hw1] at hb
  have hO3 := HO2.out.later hb
  obtain ⟨x3, ⟨b0, b1⟩, ⟨y0, y1, y2, y3⟩, n0, ⟨hl, t2, hl2, hdir⟩, hcl⟩ := hgen w2 hO3 (Nat.le_trans hsz1 hb.size) (hm1.later hb)
  clear o0 o1 hpl hw1 hb hO3 hgen hsz1 HO2 hm1
  go_wp2_with fail
  go_region
  go_wp2_with (go_at_call 58; refine hdir.mono ?_; rintro e w' ⟨rfl, rfl⟩)
  refine hcl.mono ?_
  rintro e w3 ⟨rfl, hD⟩
  have HD := Lib.hid hD
  clear hD hcl
  go_wp2_with fail
  go_ret
  exact HD.out
set_option maxHeartbeats 4000000 in
theorem do_turn5 {w0 w : World} {S : Blocks} {L : List Rw} {t : Nat} {T : Tr} (hO : Own ⟨w0, S⟩ w L) (H : Tree S (Pc L) t T) (hm : Mx w) (p q : ByteArray) (hp : p.size ≤ maxLen) {va : Option Addr} {vn vc : Nat} (hvn : vn ≤ 3500)
    {j : Int} {nd : Nd} {k : Nat} {z : List UInt8} (hc : placeT T p.data.toList = (0, some (j, nd, z))) (ha : At T j nd k) {i : Int} {f : Nd} (hx : look nd.kids (toB z) = some i) (g : Fl T i f) {R : Tr → Prop} {c : Int}
    (hcall : ∀ S' w', Own ⟨w0, S'⟩ w' L → Tree S' (Pc L) t T → (∀ b x, (b, x) ∈ S → (b, x) ∈ S') → Mx w' → Calls Tryz.prog 68 #[.pointer (some ⟨t, 0, none⟩), .agg #[.pointer (some ⟨nd.b, 0, none⟩), .string (toB z)], .int .i64 i, .agg (opL 5 p q (.slice va vn vc)).toArray] w' (DoL w0 S' L t T w' R (.int .i64 c))) :
    Calls Tryz.prog 34 #[.pointer (some ⟨t, 0, none⟩), .agg (opL 5 p q (.slice va vn vc)).toArray] w (DoL w0 S L t T w R (.int .i64 c)) := by
  obtain ⟨w1, S2, hw1, hsz, hO2, H1, m1, hsub, hlt, hB1⟩ := one_box hO H (.cells #[.int .i64 5, .string p, .string q, .slice va vn vc] 38)
  have o0 : w1.cell? ⟨w.heap.size, 0, none⟩ = some (.int .i64 5) := by rw [hO2.cellB m1]; rfl
  have o1 : w1.cell? ⟨w.heap.size, 1, none⟩ = some (.string p) := by rw [hO2.cellB m1]; rfl
  have hpl := place_any (H1.at_.inWorld hO2) H.good p hp (hm.later hB1)
  rw [hc] at hpl
  have HO2 := Lib.hid hO2
  have hgen : ∀ w2, Own ⟨w0, S2⟩ w2 L → w.heap.size ≤ w2.heap.size → Mx w2 → (w2.alloc (boxP nd (toB z))).cell? ⟨w.heap.size, 3, none⟩ = some (.slice va vn vc) ∧
      ((w2.alloc (boxP nd (toB z))).drew.cell? ⟨w2.heap.size, 0, none⟩ = some (.pointer (some ⟨nd.b, 0, none⟩)) ∧ (w2.alloc (boxP nd (toB z))).drew.cell? ⟨w2.heap.size, 1, none⟩ = some (.string (toB z))) ∧
      ((w2.alloc (boxP nd (toB z))).drew.cell? ⟨w.heap.size, 0, none⟩ = some (.int .i64 5) ∧ (w2.alloc (boxP nd (toB z))).drew.cell? ⟨w.heap.size, 1, none⟩ = some (.string p) ∧ (w2.alloc (boxP nd (toB z))).drew.cell? ⟨w.heap.size, 2, none⟩ = some (.string q) ∧ (w2.alloc (boxP nd (toB z))).drew.cell? ⟨w.heap.size, 3, none⟩ = some (.slice va vn vc)) ∧
      (w2.alloc (boxP nd (toB z))).drew.cell? ⟨nd.b, 0, none⟩ = some (.map (some k)) ∧
      ((Instr.lookup 84 (.map (some k)) (.string (toB z)) true).run Tryz.prog (w2.alloc (boxP nd (toB z))).drew = .ok (.tuple #[.int .i64 i, .bool true]) (w2.alloc (boxP nd (toB z))).drew ∧ (w2.alloc (boxP nd (toB z))).drew.cell? ⟨t, 2, none⟩ = some (.map (some T.bm)) ∧ (Instr.lookup 73 (.map (some T.bm)) (.int .i64 i) false).run Tryz.prog (w2.alloc (boxP nd (toB z))).drew = .ok (.pointer (some ⟨f.b, 0, none⟩)) (w2.alloc (boxP nd (toB z))).drew ∧ Calls Tryz.prog 58 #[.pointer (some ⟨f.b, 0, none⟩)] (w2.alloc (boxP nd (toB z))).drew (fun e w' => e = .returned (.bool false) ∧ (w2.alloc (boxP nd (toB z))).drew = w')) ∧
      Calls Tryz.prog 68 #[.pointer (some ⟨t, 0, none⟩), .agg #[.pointer (some ⟨nd.b, 0, none⟩), .string (toB z)], .int .i64 i, .agg (opL 5 p q (.slice va vn vc)).toArray] (w2.alloc (boxP nd (toB z))).drew (fun e w' => e = .returned (.int .i64 c) ∧ DoL w0 S L t T w R (.int .i64 c) (.returned (.int .i64 c)) w') := by
    intro w2 h2 h3 hm2
    have h4 := h2.alloc (boxP nd (toB z))
    have h5 := h4.drew
    have b0 : (w2.alloc (boxP nd (toB z))).drew.cell? ⟨w2.heap.size, 0, none⟩ = some (.pointer (some ⟨nd.b, 0, none⟩)) := by show (w2.alloc _).cell? _ = _; rw [World.cell?_alloc_new]; rfl
    have b1 : (w2.alloc (boxP nd (toB z))).drew.cell? ⟨w2.heap.size, 1, none⟩ = some (.string (toB z)) := by show (w2.alloc _).cell? _ = _; rw [World.cell?_alloc_new]; rfl
    have hNW := (H1.at_.inWorld h5).node _ (look_mem ha.there)
    obtain ⟨c0, _, _⟩ := hNW.at0
    rw [ha.dir] at c0
    have hl := hNW.look ha.dir (toB z)
    rw [hx] at hl
    dsimp only [Option.getD_some, Option.isSome_some] at hl
    have hl2 := (H1.at_.inWorld h5).look i
    rw [g.there] at hl2
    dsimp only [ptrOf] at hl2
    have hdir := dir_any ((H1.at_.inWorld h5).node _ (look_mem g.there))
    rw [show f.k.isSome = false by rw [g.file]; rfl] at hdir
    refine ⟨by rw [h4.cellB m1]; rfl, ⟨b0, b1⟩, ⟨by rw [h5.cellB m1]; rfl, by rw [h5.cellB m1]; rfl, by rw [h5.cellB m1]; rfl, by rw [h5.cellB m1]; rfl⟩, c0, ⟨hl, (H1.at_.inWorld h5).at0.2.2, hl2, hdir⟩, (hcall S2 _ h5 H1 hsub (hm2.later (((Below.refl _ w2).alloc (Nat.le_refl _) _).drew))).mono fun e w' hd => ?_⟩
    obtain ⟨e1, hd2⟩ := hd.ret (.int .i64 c)
    subst e1
    exact ⟨rfl, hd2.more hsub (by show _ ≤ (w2.alloc _).heap.size; simp; omega) hlt⟩
  have hsz1 : w.heap.size ≤ w1.heap.size := by omega
  have hm1 := hm.later hB1
  rw [hw1] at o0 o1 hpl
  clear hO H hO2 H1 m1 hsub hlt hsz hc hm hB1 hcall ha hx g
  dsimp only [placeL] at hpl
  go_enter Tryz.func34, Tryz.ntmps34
  go_wp2_with fail
  refine hpl.mono ?_
  rintro e w2 ⟨rfl, hb⟩
  rw [← hw1] at hb
  have hO3 := HO2.out.later hb
  obtain ⟨x3, ⟨b0, b1⟩, ⟨y0, y1, y2, y3⟩, n0, ⟨hl, t2, hl2, hdir⟩, hcl⟩ := hgen w2 hO3 (Nat.le_trans hsz1 hb.size) (hm1.later hb)
  clear o0 o1 hpl hw1 hb hO3 hgen hsz1 HO2 hm1
  go_wp2_with fail
  go_region
  go_wp2_with (go_at_call 58; refine hdir.mono ?_; rintro e w' ⟨rfl, rfl⟩)
  refine hcl.mono ?_
  rintro e w3 ⟨rfl, hD⟩
  have HD := Lib.hid hD
  clear hD hcl
  go_wp2_with fail
  go_ret
  exact HD.out
set_option maxHeartbeats 4000000 in
theorem do_turn6 {w0 w : World} {S : Blocks} {L : List Rw} {t : Nat} {T : Tr} (hO : Own ⟨w0, S⟩ w L) (H : Tree S (Pc L) t T) (hm : Mx w) (p q : ByteArray) (hp : p.size ≤ maxLen) {va : Option Addr} {vn vc : Nat} (hvn : vn ≤ 3500)
    {j : Int} {nd : Nd} {k : Nat} {z : List UInt8} (hc : placeT T p.data.toList = (0, some (j, nd, z))) (ha : At T j nd k) {i : Int} {f : Nd} (hx : look nd.kids (toB z) = some i) (g : Fl T i f) {R : Tr → Prop} {c : Int}
    (hcall : ∀ S' w', Own ⟨w0, S'⟩ w' L → Tree S' (Pc L) t T → (∀ b x, (b, x) ∈ S → (b, x) ∈ S') → Mx w' → Calls Tryz.prog 68 #[.pointer (some ⟨t, 0, none⟩), .agg #[.pointer (some ⟨nd.b, 0, none⟩), .string (toB z)], .int .i64 i, .agg (opL 6 p q (.slice va vn vc)).toArray] w' (DoL w0 S' L t T w' R (.int .i64 c))) :
    Calls Tryz.prog 34 #[.pointer (some ⟨t, 0, none⟩), .agg (opL 6 p q (.slice va vn vc)).toArray] w (DoL w0 S L t T w R (.int .i64 c)) := by
  obtain ⟨w1, S2, hw1, hsz, hO2, H1, m1, hsub, hlt, hB1⟩ := one_box hO H (.cells #[.int .i64 6, .string p, .string q, .slice va vn vc] 38)
  have o0 : w1.cell? ⟨w.heap.size, 0, none⟩ = some (.int .i64 6) := by rw [hO2.cellB m1]; rfl
  have o1 : w1.cell? ⟨w.heap.size, 1, none⟩ = some (.string p) := by rw [hO2.cellB m1]; rfl
  have hpl := place_any (H1.at_.inWorld hO2) H.good p hp (hm.later hB1)
  rw [hc] at hpl
  have HO2 := Lib.hid hO2
  have hgen : ∀ w2, Own ⟨w0, S2⟩ w2 L → w.heap.size ≤ w2.heap.size → Mx w2 → (w2.alloc (boxP nd (toB z))).cell? ⟨w.heap.size, 3, none⟩ = some (.slice va vn vc) ∧
      ((w2.alloc (boxP nd (toB z))).drew.cell? ⟨w2.heap.size, 0, none⟩ = some (.pointer (some ⟨nd.b, 0, none⟩)) ∧ (w2.alloc (boxP nd (toB z))).drew.cell? ⟨w2.heap.size, 1, none⟩ = some (.string (toB z))) ∧
      ((w2.alloc (boxP nd (toB z))).drew.cell? ⟨w.heap.size, 0, none⟩ = some (.int .i64 6) ∧ (w2.alloc (boxP nd (toB z))).drew.cell? ⟨w.heap.size, 1, none⟩ = some (.string p) ∧ (w2.alloc (boxP nd (toB z))).drew.cell? ⟨w.heap.size, 2, none⟩ = some (.string q) ∧ (w2.alloc (boxP nd (toB z))).drew.cell? ⟨w.heap.size, 3, none⟩ = some (.slice va vn vc)) ∧
      (w2.alloc (boxP nd (toB z))).drew.cell? ⟨nd.b, 0, none⟩ = some (.map (some k)) ∧
      ((Instr.lookup 84 (.map (some k)) (.string (toB z)) true).run Tryz.prog (w2.alloc (boxP nd (toB z))).drew = .ok (.tuple #[.int .i64 i, .bool true]) (w2.alloc (boxP nd (toB z))).drew ∧ (w2.alloc (boxP nd (toB z))).drew.cell? ⟨t, 2, none⟩ = some (.map (some T.bm)) ∧ (Instr.lookup 73 (.map (some T.bm)) (.int .i64 i) false).run Tryz.prog (w2.alloc (boxP nd (toB z))).drew = .ok (.pointer (some ⟨f.b, 0, none⟩)) (w2.alloc (boxP nd (toB z))).drew ∧ Calls Tryz.prog 58 #[.pointer (some ⟨f.b, 0, none⟩)] (w2.alloc (boxP nd (toB z))).drew (fun e w' => e = .returned (.bool false) ∧ (w2.alloc (boxP nd (toB z))).drew = w')) ∧
      Calls Tryz.prog 68 #[.pointer (some ⟨t, 0, none⟩), .agg #[.pointer (some ⟨nd.b, 0, none⟩), .string (toB z)], .int .i64 i, .agg (opL 6 p q (.slice va vn vc)).toArray] (w2.alloc (boxP nd (toB z))).drew (fun e w' => e = .returned (.int .i64 c) ∧ DoL w0 S L t T w R (.int .i64 c) (.returned (.int .i64 c)) w') := by
    intro w2 h2 h3 hm2
    have h4 := h2.alloc (boxP nd (toB z))
    have h5 := h4.drew
    have b0 : (w2.alloc (boxP nd (toB z))).drew.cell? ⟨w2.heap.size, 0, none⟩ = some (.pointer (some ⟨nd.b, 0, none⟩)) := by show (w2.alloc _).cell? _ = _; rw [World.cell?_alloc_new]; rfl
    have b1 : (w2.alloc (boxP nd (toB z))).drew.cell? ⟨w2.heap.size, 1, none⟩ = some (.string (toB z)) := by show (w2.alloc _).cell? _ = _; rw [World.cell?_alloc_new]; rfl
    have hNW := (H1.at_.inWorld h5).node _ (look_mem ha.there)
    obtain ⟨c0, _, _⟩ := hNW.at0
    rw [ha.dir] at c0
    have hl := hNW.look ha.dir (toB z)
    rw [hx] at hl
    dsimp only [Option.getD_some, Option.isSome_some] at hl
    have hl2 := (H1.at_.inWorld h5).look i
    rw [g.there] at hl2
    dsimp only [ptrOf] at hl2
    have hdir := dir_any ((H1.at_.inWorld h5).node _ (look_mem g.there))
    rw [show f.k.isSome = false by rw [g.file]; rfl] at hdir
    refine ⟨by rw [h4.cellB m1]; rfl, ⟨b0, b1⟩, ⟨by rw [h5.cellB m1]; rfl, by rw [h5.cellB m1]; rfl, by rw [h5.cellB m1]; rfl, by rw [h5.cellB m1]; rfl⟩, c0, ⟨hl, (H1.at_.inWorld h5).at0.2.2, hl2, hdir⟩, (hcall S2 _ h5 H1 hsub (hm2.later (((Below.refl _ w2).alloc (Nat.le_refl _) _).drew))).mono fun e w' hd => ?_⟩
    obtain ⟨e1, hd2⟩ := hd.ret (.int .i64 c)
    subst e1
    exact ⟨rfl, hd2.more hsub (by show _ ≤ (w2.alloc _).heap.size; simp; omega) hlt⟩
  have hsz1 : w.heap.size ≤ w1.heap.size := by omega
  have hm1 := hm.later hB1
  rw [hw1] at o0 o1 hpl
  clear hO H hO2 H1 m1 hsub hlt hsz hc hm hB1 hcall ha hx g
  dsimp only [placeL] at hpl
  go_enter Tryz.func34, Tryz.ntmps34
  go_wp2_with fail
  refine hpl.mono ?_
  rintro e w2 ⟨rfl, hb⟩
  rw [← hw1] at hb
  have hO3 := HO2.out.later hb
  obtain ⟨x3, ⟨b0, b1⟩, ⟨y0, y1, y2, y3⟩, n0, ⟨hl, t2, hl2, hdir⟩, hcl⟩ := hgen w2 hO3 (Nat.le_trans hsz1 hb.size) (hm1.later hb)
  clear o0 o1 hpl hw1 hb hO3 hgen hsz1 HO2 hm1
  go_wp2_with fail
  go_region
  go_wp2_with (go_at_call 58; refine hdir.mono ?_; rintro e w' ⟨rfl, rfl⟩)
  refine hcl.mono ?_
  rintro e w3 ⟨rfl, hD⟩
  have HD := Lib.hid hD
  clear hD hcl
  go_wp2_with fail
  go_ret
  exact HD.out
end Go.Proofs.YtamkfadammlhbaaGreatDoor
