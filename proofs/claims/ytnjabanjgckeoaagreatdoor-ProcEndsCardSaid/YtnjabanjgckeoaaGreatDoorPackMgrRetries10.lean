/- Texts one behind the other, each in a section of its own: what calls make of memory, step by step. -/
import Derived.Test.YtnjabanjgckeoaaGreatDoorPackMgrRetries9

/- do, where it is refused, and where a directory goes. -/
section
namespace Go.Proofs.YtnjabanjgckeoaaGreatDoor
open Go.RowKit
open Go.ChangeMaps (setBlock)
set_option linter.unusedVariables false
set_option linter.unusedSimpArgs false
set_option maxRecDepth 100000

abbrev boxO (κ : Int) (p q : ByteArray) (va : Option Addr) (vn vc : Nat) : Obj := .cells #[.int .i64 κ, .string p, .string q, .slice va vn vc] 84
theorem still_same {w0 w w2 : World} {S S2 : Blocks} {L : List Rw} {t : Nat} {T : Tr} (c : Int) (h : Own ⟨w0, S2⟩ w2 L) (H : Tree S2 (Pc L) t T) (hsub : ∀ b x, (b, x) ∈ S → (b, x) ∈ S2) : DoL w0 S L t T w (fun T2 => T2 = T) (.int .i64 c) (.returned (.int .i64 c)) w2 :=
  ⟨S2, L, T, rfl, h, fun _ h => h, H, ⟨fun b x hb _ => hsub b x hb, fun b hb => .inl hb⟩, rfl⟩
theorem do_kind {w0 w : World} {S : Blocks} {L : List Rw} {t : Nat} {T : Tr} (hO : Own ⟨w0, S⟩ w L) (H : Tree S (Pc L) t T) (κ : Int) (hκ : κ < 0 ∨ 6 < κ) (p q : ByteArray) {va : Option Addr} {vn vc : Nat} :
    Calls Tryz.prog 103 #[.pointer (some ⟨t, 0, none⟩), .agg (opL κ p q (.slice va vn vc)).toArray] w (DoL w0 S L t T w (fun T2 => T2 = T) (.int .i64 1)) := by
  obtain ⟨w1, S2, hw1, hsz, hO2, H1, m1, hsub, hlt, hB1⟩ := one_box hO H (boxO κ p q va vn vc)
  have o0 : w1.cell? ⟨w.heap.size, 0, none⟩ = some (.int .i64 κ) := by rw [hO2.cellB m1]; rfl
  have HP := Lib.hid (still_same (w := w) 1 hO2 H1 hsub)
  rw [hw1] at o0 HP
  clear hO H hO2 H1 m1 hsub hlt hsz hB1 hw1
  by_cases hk : κ < 0
  · clear hκ
    go_enter Tryz.func103, Tryz.ntmps103
    go_wp2_with fail
    go_ret
    exact HP.out
  · have h6 : 6 < κ := hκ.resolve_left hk
    clear hκ
    go_enter Tryz.func103, Tryz.ntmps103
    go_wp2_with fail
    go_ret
    exact HP.out
set_option maxHeartbeats 2000000 in
theorem do_bad {w0 w : World} {S : Blocks} {L : List Rw} {t : Nat} {T : Tr} (hO : Own ⟨w0, S⟩ w L) (H : Tree S (Pc L) t T) (hm : Mx w) (κ : Int) (h0 : ¬ κ < 0) (h6 : ¬ 6 < κ) (p q : ByteArray) (hp : p.size ≤ maxLen) {va : Option Addr} {vn vc : Nat}
    {c : Int} (hc : placeT T p.data.toList = (c, none)) (hc0 : (c != 0) = true) :
    Calls Tryz.prog 103 #[.pointer (some ⟨t, 0, none⟩), .agg (opL κ p q (.slice va vn vc)).toArray] w (DoL w0 S L t T w (fun T2 => T2 = T) (.int .i64 c)) := by
  obtain ⟨w1, S2, hw1, hsz, hO2, H1, m1, hsub, hlt, hB1⟩ := one_box hO H (boxO κ p q va vn vc)
  have o0 : w1.cell? ⟨w.heap.size, 0, none⟩ = some (.int .i64 κ) := by rw [hO2.cellB m1]; rfl
  have o1 : w1.cell? ⟨w.heap.size, 1, none⟩ = some (.string p) := by rw [hO2.cellB m1]; rfl
  have hpl := place_any (H1.at_.inWorld hO2) H.good p hp (hm.later hB1)
  rw [hc] at hpl
  have hD : ∀ w', Own ⟨w0, S2⟩ w' L → DoL w0 S L t T w (fun T2 => T2 = T) (.int .i64 c) (.returned (.int .i64 c)) w' := fun w' h => still_same c h H1 hsub
  have HO2 := Lib.hid hO2
  rw [hw1] at o0 o1 hpl
  clear hO H hO2 H1 m1 hsub hlt hsz hc hm hB1
  dsimp only [placeL, zP] at hpl
  go_enter Tryz.func103, Tryz.ntmps103
  go_wp2_with fail
  refine hpl.mono ?_
  rintro e w2 ⟨rfl, hb⟩
  rw [← hw1] at hb
  have hO3 := HO2.out.later hb
  have HD := Lib.hid (hD _ (hO3.alloc (.cells #[.pointer none, .string ⟨#[]⟩] 226)))
  clear o0 o1 hpl hw1 hb hO3 hD
  go_wp2_with fail
  go_ret
  exact HD.out
/-- What lies in boxes behind a good place. -/
theorem do_facts {w0 w2 : World} {S2 : Blocks} {L : List Rw} {t : Nat} {T : Tr} (h2 : Own ⟨w0, S2⟩ w2 L) (H1 : Tree S2 (Pc L) t T) {m : Nat} {κ : Int} {p q : ByteArray} {va : Option Addr} {vn vc : Nat} (m1 : (m, boxO κ p q va vn vc) ∈ S2) {j : Int} {nd : Nd} {k : Nat} (ha : At T j nd k) (z : List UInt8) :
    Own ⟨w0, S2⟩ (w2.alloc (boxP nd (toB z))).drew L ∧ (w2.alloc (boxP nd (toB z))).cell? ⟨m, 3, none⟩ = some (.slice va vn vc) ∧
      ((w2.alloc (boxP nd (toB z))).drew.cell? ⟨w2.heap.size, 0, none⟩ = some (.pointer (some ⟨nd.b, 0, none⟩)) ∧ (w2.alloc (boxP nd (toB z))).drew.cell? ⟨w2.heap.size, 1, none⟩ = some (.string (toB z))) ∧
      ((w2.alloc (boxP nd (toB z))).drew.cell? ⟨m, 0, none⟩ = some (.int .i64 κ) ∧ (w2.alloc (boxP nd (toB z))).drew.cell? ⟨m, 1, none⟩ = some (.string p) ∧ (w2.alloc (boxP nd (toB z))).drew.cell? ⟨m, 2, none⟩ = some (.string q) ∧ (w2.alloc (boxP nd (toB z))).drew.cell? ⟨m, 3, none⟩ = some (.slice va vn vc)) ∧
      (w2.alloc (boxP nd (toB z))).drew.cell? ⟨nd.b, 0, none⟩ = some (.map (some k)) ∧
      (Instr.lookup 28 (.map (some k)) (.string (toB z)) true).run Tryz.prog (w2.alloc (boxP nd (toB z))).drew = .ok (.tuple #[.int .i64 ((look nd.kids (toB z)).getD 0), .bool (look nd.kids (toB z)).isSome]) (w2.alloc (boxP nd (toB z))).drew := by
  have h4 := h2.alloc (boxP nd (toB z))
  have h5 := h4.drew
  have b0 : (w2.alloc (boxP nd (toB z))).drew.cell? ⟨w2.heap.size, 0, none⟩ = some (.pointer (some ⟨nd.b, 0, none⟩)) := by show (w2.alloc _).cell? _ = _; rw [World.cell?_alloc_new]; rfl
  have b1 : (w2.alloc (boxP nd (toB z))).drew.cell? ⟨w2.heap.size, 1, none⟩ = some (.string (toB z)) := by show (w2.alloc _).cell? _ = _; rw [World.cell?_alloc_new]; rfl
  have hNW := (H1.at_.inWorld h5).node _ (look_mem ha.there)
  obtain ⟨c0, _, _⟩ := hNW.at0
  rw [ha.dir] at c0
  exact ⟨h5, by rw [h4.cellB m1]; rfl, ⟨b0, b1⟩, ⟨by rw [h5.cellB m1]; rfl, by rw [h5.cellB m1]; rfl, by rw [h5.cellB m1]; rfl, by rw [h5.cellB m1]; rfl⟩, c0, hNW.look ha.dir (toB z)⟩
set_option maxHeartbeats 2000000 in
theorem do_long {w0 w : World} {S : Blocks} {L : List Rw} {t : Nat} {T : Tr} (hO : Own ⟨w0, S⟩ w L) (H : Tree S (Pc L) t T) (hm : Mx w) (κ : Int) (h0 : ¬ κ < 0) (h6 : ¬ 6 < κ) (p q : ByteArray) (hp : p.size ≤ maxLen) {va : Option Addr} {vn vc : Nat} (hvn : (3500 : Int) < (vn : Int))
    {j : Int} {nd : Nd} {k : Nat} {z : List UInt8} (hc : placeT T p.data.toList = (0, some (j, nd, z))) (ha : At T j nd k) :
    Calls Tryz.prog 103 #[.pointer (some ⟨t, 0, none⟩), .agg (opL κ p q (.slice va vn vc)).toArray] w (DoL w0 S L t T w (fun T2 => T2 = T) (.int .i64 6)) := by
  obtain ⟨w1, S2, hw1, hsz, hO2, H1, m1, hsub, hlt, hB1⟩ := one_box hO H (boxO κ p q va vn vc)
  have o0 : w1.cell? ⟨w.heap.size, 0, none⟩ = some (.int .i64 κ) := by rw [hO2.cellB m1]; rfl
  have o1 : w1.cell? ⟨w.heap.size, 1, none⟩ = some (.string p) := by rw [hO2.cellB m1]; rfl
  have hpl := place_any (H1.at_.inWorld hO2) H.good p hp (hm.later hB1)
  rw [hc] at hpl
  have HO2 := Lib.hid hO2
  have hgen : ∀ w2, Own ⟨w0, S2⟩ w2 L → (w2.alloc (boxP nd (toB z))).cell? ⟨w.heap.size, 3, none⟩ = some (.slice va vn vc) ∧ DoL w0 S L t T w (fun T2 => T2 = T) (.int .i64 6) (.returned (.int .i64 6)) (w2.alloc (boxP nd (toB z))) := fun w2 h2 =>
    ⟨(do_facts h2 H1 m1 ha z).2.1, still_same 6 (h2.alloc _) H1 hsub⟩
  rw [hw1] at o0 o1 hpl
  clear hO H hO2 H1 m1 hsub hlt hsz hc hm hB1 ha
  dsimp only [placeL] at hpl
  go_enter Tryz.func103, Tryz.ntmps103
  go_wp2_with fail
  refine hpl.mono ?_
  rintro e w2 ⟨rfl, hb⟩
  rw [← hw1] at hb
  obtain ⟨x3, hD⟩ := hgen w2 (HO2.out.later hb)
  have HD := Lib.hid hD
  clear o0 o1 hpl hw1 hb hgen HO2 hD
  go_wp2_with fail
  go_ret
  exact HD.out
set_option maxHeartbeats 2000000 in
theorem do_twice {w0 w : World} {S : Blocks} {L : List Rw} {t : Nat} {T : Tr} (hO : Own ⟨w0, S⟩ w L) (H : Tree S (Pc L) t T) (hm : Mx w) (κ : Int) (hκ : κ = 0 ∨ κ = 2) (p q : ByteArray) (hp : p.size ≤ maxLen) {va : Option Addr} {vn vc : Nat} (hvn : ¬ (3500 : Int) < (vn : Int))
    {j : Int} {nd : Nd} {k : Nat} {z : List UInt8} (hc : placeT T p.data.toList = (0, some (j, nd, z))) (ha : At T j nd k) {i : Int} (hx : look nd.kids (toB z) = some i) :
    Calls Tryz.prog 103 #[.pointer (some ⟨t, 0, none⟩), .agg (opL κ p q (.slice va vn vc)).toArray] w (DoL w0 S L t T w (fun T2 => T2 = T) (.int .i64 9)) := by
  obtain ⟨w1, S2, hw1, hsz, hO2, H1, m1, hsub, hlt, hB1⟩ := one_box hO H (boxO κ p q va vn vc)
  have o0 : w1.cell? ⟨w.heap.size, 0, none⟩ = some (.int .i64 κ) := by rw [hO2.cellB m1]; rfl
  have o1 : w1.cell? ⟨w.heap.size, 1, none⟩ = some (.string p) := by rw [hO2.cellB m1]; rfl
  have hpl := place_any (H1.at_.inWorld hO2) H.good p hp (hm.later hB1)
  rw [hc] at hpl
  have HO2 := Lib.hid hO2
  have hgen := fun w2 (h2 : Own ⟨w0, S2⟩ w2 L) => do_facts h2 H1 m1 ha z
  rw [hx] at hgen
  have hD : ∀ w', Own ⟨w0, S2⟩ w' L → DoL w0 S L t T w (fun T2 => T2 = T) (.int .i64 9) (.returned (.int .i64 9)) w' := fun w' h => still_same 9 h H1 hsub
  rw [hw1] at o0 o1 hpl
  clear hO H hO2 H1 m1 hsub hlt hsz hc hm hB1 ha hx
  dsimp only [placeL, Option.getD_some, Option.isSome_some] at hpl hgen
  have h0 : ¬ κ < 0 := by rcases hκ with rfl | rfl <;> decide
  have h6 : ¬ 6 < κ := by rcases hκ with rfl | rfl <;> decide
  go_enter Tryz.func103, Tryz.ntmps103
  go_wp2_with fail
  refine hpl.mono ?_
  rintro e w2 ⟨rfl, hb⟩
  rw [← hw1] at hb
  obtain ⟨h5, x3, ⟨b0, b1⟩, ⟨y0, y1, y2, y3⟩, n0, hl⟩ := hgen w2 (HO2.out.later hb)
  have HD := Lib.hid (hD _ h5)
  clear o0 o1 hpl hw1 hb hgen HO2 hD h5
  go_wp2_with fail
  go_region
  rcases hκ with rfl | rfl
  · go_wp2_with fail
    go_ret
    exact HD.out
  · go_wp2_with fail
    go_ret
    exact HD.out
set_option maxHeartbeats 2000000 in
theorem do_none {w0 w : World} {S : Blocks} {L : List Rw} {t : Nat} {T : Tr} (hO : Own ⟨w0, S⟩ w L) (H : Tree S (Pc L) t T) (hm : Mx w) (κ : Int) (h0 : ¬ κ < 0) (h6 : ¬ 6 < κ) (k0 : (κ == 0) = false) (k2 : (κ == 2) = false) (p q : ByteArray) (hp : p.size ≤ maxLen) {va : Option Addr} {vn vc : Nat} (hvn : ¬ (3500 : Int) < (vn : Int))
    {j : Int} {nd : Nd} {k : Nat} {z : List UInt8} (hc : placeT T p.data.toList = (0, some (j, nd, z))) (ha : At T j nd k) (hx : look nd.kids (toB z) = none) :
    Calls Tryz.prog 103 #[.pointer (some ⟨t, 0, none⟩), .agg (opL κ p q (.slice va vn vc)).toArray] w (DoL w0 S L t T w (fun T2 => T2 = T) (.int .i64 8)) := by
  obtain ⟨w1, S2, hw1, hsz, hO2, H1, m1, hsub, hlt, hB1⟩ := one_box hO H (boxO κ p q va vn vc)
  have o0 : w1.cell? ⟨w.heap.size, 0, none⟩ = some (.int .i64 κ) := by rw [hO2.cellB m1]; rfl
  have o1 : w1.cell? ⟨w.heap.size, 1, none⟩ = some (.string p) := by rw [hO2.cellB m1]; rfl
  have hpl := place_any (H1.at_.inWorld hO2) H.good p hp (hm.later hB1)
  rw [hc] at hpl
  have HO2 := Lib.hid hO2
  have hgen := fun w2 (h2 : Own ⟨w0, S2⟩ w2 L) => do_facts h2 H1 m1 ha z
  rw [hx] at hgen
  have hD : ∀ w', Own ⟨w0, S2⟩ w' L → DoL w0 S L t T w (fun T2 => T2 = T) (.int .i64 8) (.returned (.int .i64 8)) w' := fun w' h => still_same 8 h H1 hsub
  rw [hw1] at o0 o1 hpl
  clear hO H hO2 H1 m1 hsub hlt hsz hc hm hB1 ha hx
  dsimp only [placeL, Option.getD_none, Option.isSome_none] at hpl hgen
  go_enter Tryz.func103, Tryz.ntmps103
  go_wp2_with fail
  refine hpl.mono ?_
  rintro e w2 ⟨rfl, hb⟩
  rw [← hw1] at hb
  obtain ⟨h5, x3, ⟨b0, b1⟩, ⟨y0, y1, y2, y3⟩, n0, hl⟩ := hgen w2 (HO2.out.later hb)
  have HD := Lib.hid (hD _ h5)
  clear o0 o1 hpl hw1 hb hgen HO2 hD h5
  go_wp2_with fail
  go_region
  go_wp2_with fail
  go_ret
  exact HD.out
set_option maxHeartbeats 2000000 in
theorem do_rm {w0 w : World} {S : Blocks} {L : List Rw} {t : Nat} {T : Tr} (hO : Own ⟨w0, S⟩ w L) (H : Tree S (Pc L) t T) (hm : Mx w) (p q : ByteArray) (hp : p.size ≤ maxLen) {va : Option Addr} {vn vc : Nat} (hvn : ¬ (3500 : Int) < (vn : Int))
    {j : Int} {nd : Nd} {k : Nat} {z : List UInt8} (hc : placeT T p.data.toList = (0, some (j, nd, z))) (ha : At T j nd k) {i : Int} (hx : look nd.kids (toB z) = some i) {R : Tr → Prop} {c : Int}
    (hcall : ∀ S' w', Own ⟨w0, S'⟩ w' L → Tree S' (Pc L) t T → Calls Tryz.prog 138 #[.pointer (some ⟨t, 0, none⟩), .agg #[.pointer (some ⟨nd.b, 0, none⟩), .string (toB z)], .int .i64 i] w' (DoL w0 S' L t T w' R (.int .i64 c))) :
    Calls Tryz.prog 103 #[.pointer (some ⟨t, 0, none⟩), .agg (opL 1 p q (.slice va vn vc)).toArray] w (DoL w0 S L t T w R (.int .i64 c)) := by
  obtain ⟨w1, S2, hw1, hsz, hO2, H1, m1, hsub, hlt, hB1⟩ := one_box hO H (boxO 1 p q va vn vc)
  have o0 : w1.cell? ⟨w.heap.size, 0, none⟩ = some (.int .i64 1) := by rw [hO2.cellB m1]; rfl
  have o1 : w1.cell? ⟨w.heap.size, 1, none⟩ = some (.string p) := by rw [hO2.cellB m1]; rfl
  have hpl := place_any (H1.at_.inWorld hO2) H.good p hp (hm.later hB1)
  rw [hc] at hpl
  have HO2 := Lib.hid hO2
  have hgen := fun w2 (h2 : Own ⟨w0, S2⟩ w2 L) => do_facts h2 H1 m1 ha z
  rw [hx] at hgen
  have hcl : ∀ w2, Own ⟨w0, S2⟩ w2 L → w.heap.size ≤ w2.heap.size → Calls Tryz.prog 138 #[.pointer (some ⟨t, 0, none⟩), .agg #[.pointer (some ⟨nd.b, 0, none⟩), .string (toB z)], .int .i64 i] w2 (fun e w' => e = .returned (.int .i64 c) ∧ DoL w0 S L t T w R (.int .i64 c) (.returned (.int .i64 c)) w') := fun w2 h2 h3 => (hcall S2 _ h2 H1).mono fun e w' hd => by
    obtain ⟨e1, hd2⟩ := hd.ret (.int .i64 c)
    subst e1
    exact ⟨rfl, hd2.more hsub h3 hlt⟩
  have hsz1 : w.heap.size ≤ w1.heap.size := by omega
  rw [hw1] at o0 o1 hpl
  clear hO H hO2 H1 m1 hsub hlt hsz hc hm hB1 ha hx hcall
  dsimp only [placeL, Option.getD_some, Option.isSome_some] at hpl hgen
  go_enter Tryz.func103, Tryz.ntmps103
  go_wp2_with fail
  refine hpl.mono ?_
  rintro e w2 ⟨rfl, hb⟩
  rw [← hw1] at hb
  obtain ⟨h5, x3, ⟨b0, b1⟩, ⟨y0, y1, y2, y3⟩, n0, hl⟩ := hgen w2 (HO2.out.later hb)
  have hcl2 := hcl _ h5 (by show _ ≤ (w2.alloc _).heap.size; have := hb.size; simp; omega)
  clear o0 o1 hpl hw1 hb hgen HO2 h5 hcl hsz1
  go_wp2_with fail
  go_region
  go_wp2_with fail
  refine hcl2.mono ?_
  rintro e w3 ⟨rfl, hD⟩
  have HD := Lib.hid hD
  clear hD hcl2
  go_wp2_with fail
  go_ret
  exact HD.out
set_option maxHeartbeats 2000000 in
theorem do_isdir {w0 w : World} {S : Blocks} {L : List Rw} {t : Nat} {T : Tr} (hO : Own ⟨w0, S⟩ w L) (H : Tree S (Pc L) t T) (hm : Mx w) (κ : Int) (h0 : ¬ κ < 0) (h6 : ¬ 6 < κ) (k0 : (κ == 0) = false) (k1 : (κ == 1) = false) (k2 : (κ == 2) = false) (p q : ByteArray) (hp : p.size ≤ maxLen) {va : Option Addr} {vn vc : Nat} (hvn : ¬ (3500 : Int) < (vn : Int))
    {j : Int} {nd : Nd} {k : Nat} {z : List UInt8} (hc : placeT T p.data.toList = (0, some (j, nd, z))) (ha : At T j nd k) {i : Int} (hx : look nd.kids (toB z) = some i) {f : Nd} (hi : look T.nodes i = some f) (hf : f.k.isSome = true) :
    Calls Tryz.prog 103 #[.pointer (some ⟨t, 0, none⟩), .agg (opL κ p q (.slice va vn vc)).toArray] w (DoL w0 S L t T w (fun T2 => T2 = T) (.int .i64 10)) := by
  obtain ⟨w1, S2, hw1, hsz, hO2, H1, m1, hsub, hlt, hB1⟩ := one_box hO H (boxO κ p q va vn vc)
  have o0 : w1.cell? ⟨w.heap.size, 0, none⟩ = some (.int .i64 κ) := by rw [hO2.cellB m1]; rfl
  have o1 : w1.cell? ⟨w.heap.size, 1, none⟩ = some (.string p) := by rw [hO2.cellB m1]; rfl
  have hpl := place_any (H1.at_.inWorld hO2) H.good p hp (hm.later hB1)
  rw [hc] at hpl
  have HO2 := Lib.hid hO2
  have hgen := fun w2 (h2 : Own ⟨w0, S2⟩ w2 L) => do_facts h2 H1 m1 ha z
  rw [hx] at hgen
  have hmore : ∀ w2, Own ⟨w0, S2⟩ w2 L → w2.cell? ⟨t, 2, none⟩ = some (.map (some T.bm)) ∧ (Instr.lookup 122 (.map (some T.bm)) (.int .i64 i) false).run Tryz.prog w2 = .ok (.pointer (some ⟨f.b, 0, none⟩)) w2 ∧ Calls Tryz.prog 134 #[.pointer (some ⟨f.b, 0, none⟩)] w2 (fun e w' => e = .returned (.bool true) ∧ w2 = w') ∧ DoL w0 S L t T w (fun T2 => T2 = T) (.int .i64 10) (.returned (.int .i64 10)) w2 := fun w2 h2 => by
    have hl2 := (H1.at_.inWorld h2).look i
    rw [hi] at hl2
    have hdir := dir_any ((H1.at_.inWorld h2).node _ (look_mem hi))
    rw [hf] at hdir
    exact ⟨(H1.at_.inWorld h2).at0.2.2, hl2, hdir, still_same 10 h2 H1 hsub⟩
  rw [hw1] at o0 o1 hpl
  clear hO H hO2 H1 m1 hsub hlt hsz hc hm hB1 ha hx hi hf
  dsimp only [placeL, Option.getD_some, Option.isSome_some] at hpl hgen
  go_enter Tryz.func103, Tryz.ntmps103
  go_wp2_with fail
  refine hpl.mono ?_
  rintro e w2 ⟨rfl, hb⟩
  rw [← hw1] at hb
  obtain ⟨h5, x3, ⟨b0, b1⟩, ⟨y0, y1, y2, y3⟩, n0, hl⟩ := hgen w2 (HO2.out.later hb)
  obtain ⟨t2, hl2, hdir, hD⟩ := hmore _ h5
  have HD := Lib.hid hD
  clear o0 o1 hpl hw1 hb hgen HO2 hD h5 hmore
  go_wp2_with fail
  go_region
  go_wp2_with (go_at_call 134; refine hdir.mono ?_; rintro e w' ⟨rfl, rfl⟩)
  go_ret
  exact HD.out
end Go.Proofs.YtnjabanjgckeoaaGreatDoor
end

/- Do, against the plain state. -/
section
namespace Go.Proofs.YtnjabanjgckeoaaGreatDoor
open Go.RowKit
open Go.ChangeMaps (setBlock)
set_option linter.unusedVariables false
set_option linter.unusedSimpArgs false
set_option maxRecDepth 100000

def doAllE (E : Et) : List OpE → Option Et
  | [] => some E
  | o :: r => (doE E o).bind fun E2 => doAllE E2 r
structure OpIn (w0 : World) (S : Blocks) (L : List Rw) (o : OpD) (x : OpE) : Prop where
  kind : x.kind = o.kind
  l : x.l = o.p.data.toList
  l2 : x.l2 = o.q.data.toList
  p : o.p.size ≤ maxLen
  q : o.q.size ≤ maxLen
  n : o.n = x.zs.length
  data : Byo w0 S [] L (.slice o.a o.n o.c) x.zs
end Go.Proofs.YtnjabanjgckeoaaGreatDoor
end

/- What always holds of a tree as plain data; what an operation makes of it, or what is wrong with it. -/
section
namespace Go.Proofs.YtnjabanjgckeoaaGreatDoor
open Go.RowKit
set_option linter.unusedVariables false
set_option linter.unusedSimpArgs false

section
variable {α β : Type} [DecidableEq α]
theorem perm_look {m : List (α × β)} (hd : (m.map (·.1)).Nodup) {a : α} {v : β} (h : look m a = some v) : m.Perm ((a, v) :: m.filter fun p => decide (p.1 ≠ a)) := by
  induction m with
  | nil => cases h
  | cons p r ih =>
    rw [List.map_cons, List.nodup_cons] at hd
    unfold look at h
    by_cases hp : p.1 = a
    · rw [if_pos hp] at h
      injection h with h
      have e : p = (a, v) := by rw [← hp, ← h]
      rw [List.filter_cons_of_neg (by simp [hp]), e]
      have : r.filter (fun p => decide (p.1 ≠ a)) = r := List.filter_eq_self.2 fun q hq => by
        have : q.1 ≠ a := fun e => hd.1 (List.mem_map.2 ⟨q, hq, e.trans hp.symm⟩)
        simpa using this
      rw [this]
    · rw [if_neg hp] at h
      rw [List.filter_cons_of_pos (by simp [hp])]
      exact ((ih hd.2 h).cons p).trans (List.Perm.swap _ _ _)
theorem look_none_key {m : List (α × β)} {a : α} (h : look m a = none) : a ∉ m.map (·.1) := fun hm => by
  obtain ⟨v, hv⟩ := look_some_of_key hm
  rw [h] at hv; cases hv
theorem del_eq_perm {m : List (α × β)} (hd : (m.map (·.1)).Nodup) {a : α} {v : β} (h : look m a = some v) : m.Perm ((a, v) :: del m a) := by
  rw [del_filter hd]; exact perm_look hd h
end
/-- Whatever a step adds up over nodes. -/
theorem sum_put {m : List (Int × ENd)} (hd : (m.map (·.1)).Nodup) {a : Int} {u : ENd} (h : look m a = some u) (v : ENd) (f : ENd → Nat) : ((put m a v).map fun p => f p.2).sum + f u = (m.map fun p => f p.2).sum + f v := by
  have h1 := ((put_filter hd a v).map fun p => f p.2).sum_nat
  have h2 := ((perm_look hd h).map fun p => f p.2).sum_nat
  simp only [List.map_cons, List.sum_cons] at h1 h2
  omega
theorem sum_new {m : List (Int × ENd)} {a : Int} (h : look m a = none) (v : ENd) (f : ENd → Nat) : ((put m a v).map fun p => f p.2).sum = (m.map fun p => f p.2).sum + f v := by
  rw [put_new (look_none_key h)]
  simp
theorem sum_del {m : List (Int × ENd)} (hd : (m.map (·.1)).Nodup) {a : Int} {u : ENd} (h : look m a = some u) (f : ENd → Nat) : ((del m a).map fun p => f p.2).sum + f u = (m.map fun p => f p.2).sum := by
  have h2 := ((del_eq_perm hd h).map fun p => f p.2).sum_nat
  simp only [List.map_cons, List.sum_cons] at h2
  omega
/-- How often a number is told in a directory, and in all. -/
def inK (kids : List (ByteArray × Int)) (x : Int) : Nat := (kids.map (·.2)).count x
def refs (m : List (Int × ENd)) (x : Int) : Nat := (m.map fun p => inK p.2.kids x).sum
def ents (m : List (Int × ENd)) : Nat := (m.map fun p => p.2.kids.length).sum
theorem inK_put {kids : List (ByteArray × Int)} {name : ByteArray} (h : look kids name = none) (i x : Int) : inK (put kids name i) x = inK kids x + if i = x then 1 else 0 := by
  rw [put_new (look_none_key h)]
  unfold inK
  rw [List.map_append, List.count_append]
  simp [List.count_cons]
theorem inK_del {kids : List (ByteArray × Int)} (hd : (kids.map (·.1)).Nodup) {name : ByteArray} {i : Int} (h : look kids name = some i) (x : Int) : inK (del kids name) x + (if i = x then 1 else 0) = inK kids x := by
  have h1 := ((del_eq_perm hd h).map (·.2)).count_eq x
  unfold inK
  rw [h1, List.map_cons, List.count_cons]
  simp
theorem len_put {kids : List (ByteArray × Int)} {name : ByteArray} (h : look kids name = none) (i : Int) : (put kids name i).length = kids.length + 1 := by
  rw [put_new (look_none_key h)]; simp
theorem refs_le (m : List (Int × ENd)) (x : Int) : refs m x ≤ ents m := by
  unfold refs ents
  induction m with
  | nil => exact Nat.le_refl _
  | cons p r ih =>
    simp only [List.map_cons, List.sum_cons]
    have : inK p.2.kids x ≤ p.2.kids.length := by
      unfold inK
      exact Nat.le_trans (List.count_le_length ..) (by simp)
    omega
theorem refs_pos {m : List (Int × ENd)} {p : Int × ENd} (hp : p ∈ m) {q : ByteArray × Int} (hq : q ∈ p.2.kids) : 1 ≤ refs m q.2 := by
  unfold refs
  induction m with
  | nil => cases hp
  | cons y r ih =>
    simp only [List.map_cons, List.sum_cons]
    rcases List.mem_cons.1 hp with rfl | hp
    · have : 0 < inK p.2.kids q.2 := List.count_pos_iff.2 (List.mem_map.2 ⟨q, hq, rfl⟩)
      omega
    · have := ih hp
      omega
theorem refs_zero {m : List (Int × ENd)} {x : Int} (h : refs m x = 0) {p : Int × ENd} (hp : p ∈ m) {q : ByteArray × Int} (hq : q ∈ p.2.kids) : q.2 ≠ x := fun e => by
  have := refs_pos hp hq
  rw [e] at this
  omega
theorem refs_none {m : List (Int × ENd)} {x : Int} (h : ∀ p ∈ m, ∀ q ∈ p.2.kids, q.2 ≠ x) : refs m x = 0 := by
  unfold refs
  induction m with
  | nil => rfl
  | cons y r ih =>
    simp only [List.map_cons, List.sum_cons]
    have h1 := ih fun p hp => h p (List.mem_cons_of_mem _ hp)
    have h2 : inK y.2.kids x = 0 := List.count_eq_zero.2 fun hm => by
      obtain ⟨q, hq, e⟩ := List.mem_map.1 hm
      exact h y (List.mem_cons_self ..) q hq e
    omega
structure Inv (E : Et) (B : Nat) : Prop where
  keys : (E.nodes.map (·.1)).Nodup
  root : ∃ n, look E.nodes 1 = some n ∧ n.dir = true
  kids : ∀ i n, look E.nodes i = some n → ∀ q ∈ n.kids, ∃ m, look E.nodes q.2 = some m ∧ (m.dir = true → i < q.2)
  names : ∀ i n, look E.nodes i = some n → (n.kids.map (·.1)).Nodup
  file : ∀ i n, look E.nodes i = some n → n.dir = false → n.kids = [] ∧ n.places = (refs E.nodes i : Int)
  dirs : ∀ i n, look E.nodes i = some n → n.dir = true → i ≠ 1 → refs E.nodes i = 1
  top : refs E.nodes 1 = 0
  low : ∀ i n, look E.nodes i = some n → 1 ≤ i ∧ i < E.next
  small : ∀ i n, look E.nodes i = some n → n.data.length ≤ 3500
  ents : ents E.nodes ≤ B
  nx : E.next ≤ (B : Int) + 2
  sum : sumE E.nodes ≤ 3500 * B
  len : E.nodes.length ≤ B + 1
theorem Inv.mono {E : Et} {B B' : Nat} (h : Inv E B) (hb : B ≤ B') : Inv E B' :=
  ⟨h.keys, h.root, h.kids, h.names, h.file, h.dirs, h.top, h.low, h.small, Nat.le_trans h.ents hb, by have := h.nx; omega, by have := h.sum; omega, by have := h.len; omega⟩
theorem Inv.fresh {E : Et} {B : Nat} (h : Inv E B) : look E.nodes E.next = none := by
  cases h1 : look E.nodes E.next with
  | none => rfl
  | some n => exact absurd (h.low _ _ h1).2 (Int.lt_irrefl _)
theorem Inv.freshRefs {E : Et} {B : Nat} (h : Inv E B) : refs E.nodes E.next = 0 := refs_none fun p hp q hq e => by
  obtain ⟨m, hm, _⟩ := h.kids p.1 p.2 (look_of_mem h.keys hp) q hq
  rw [e, h.fresh] at hm; cases hm
theorem Inv.first {E : Et} {B : Nat} (h : Inv E B) : 1 < E.next := by
  obtain ⟨n, h1, _⟩ := h.root
  exact (h.low _ _ h1).2
theorem nodes_len_put {m : List (Int × ENd)} {a : Int} {u : ENd} (h : look m a = some u) (v : ENd) : (put m a v).length = m.length := by
  have := congrArg List.length (put_keys h v)
  simpa using this
theorem Inv.put {E : Et} {B B' : Nat} (h : Inv E B) (hB : B ≤ B') (he : Go.Proofs.YtnjabanjgckeoaaGreatDoor.ents E.nodes + 1 ≤ B') {j i : Int} {nd f : ENd} {name : ByteArray} (hj : look E.nodes j = some nd) (hnd : nd.dir = true) (hx : look nd.kids name = none) (hi : look E.nodes i = some f) (hf : f.dir = false) : Inv (putEx E j name i) B' := by
  have hij : i ≠ j := fun e => by rw [e, hj] at hi; injection hi with hi; rw [hi, hf] at hnd; cases hnd
  have e : putEx E j name i = { E with nodes := Go.Proofs.YtnjabanjgckeoaaGreatDoor.put (Go.Proofs.YtnjabanjgckeoaaGreatDoor.put E.nodes j { nd with kids := Go.Proofs.YtnjabanjgckeoaaGreatDoor.put nd.kids name i }) i { f with places := f.places + 1 } } := by unfold putEx; rw [hj, hi]
  rw [e]
  have hi2 : look (Go.Proofs.YtnjabanjgckeoaaGreatDoor.put E.nodes j { nd with kids := Go.Proofs.YtnjabanjgckeoaaGreatDoor.put nd.kids name i }) i = some f := by rw [look_put, if_neg hij]; exact hi
  have k1 := put_nodup h.keys j { nd with kids := Go.Proofs.YtnjabanjgckeoaaGreatDoor.put nd.kids name i }
  have k2 := put_nodup k1 i { f with places := f.places + 1 }
  have hfk := (h.file i f hi hf).1
  have hlk : ∀ x, look (Go.Proofs.YtnjabanjgckeoaaGreatDoor.put (Go.Proofs.YtnjabanjgckeoaaGreatDoor.put E.nodes j { nd with kids := Go.Proofs.YtnjabanjgckeoaaGreatDoor.put nd.kids name i }) i { f with places := f.places + 1 }) x = if x = i then some { f with places := f.places + 1 } else if x = j then some { nd with kids := Go.Proofs.YtnjabanjgckeoaaGreatDoor.put nd.kids name i } else look E.nodes x := fun x => by rw [look_put, look_put]
  have hsum := fun g => sum_put k1 hi2 { f with places := f.places + 1 } g
  have hsum0 := fun g => sum_put h.keys hj { nd with kids := Go.Proofs.YtnjabanjgckeoaaGreatDoor.put nd.kids name i } g
  have hrefs : ∀ x, refs (Go.Proofs.YtnjabanjgckeoaaGreatDoor.put (Go.Proofs.YtnjabanjgckeoaaGreatDoor.put E.nodes j { nd with kids := Go.Proofs.YtnjabanjgckeoaaGreatDoor.put nd.kids name i }) i { f with places := f.places + 1 }) x = refs E.nodes x + if i = x then 1 else 0 := fun x => by
    have h1 := hsum fun n => inK n.kids x
    have h2 := hsum0 fun n => inK n.kids x
    have h3 := inK_put hx i x
    unfold refs
    simp only at h1 h2
    omega
  generalize hM : Go.Proofs.YtnjabanjgckeoaaGreatDoor.put (Go.Proofs.YtnjabanjgckeoaaGreatDoor.put E.nodes j { nd with kids := Go.Proofs.YtnjabanjgckeoaaGreatDoor.put nd.kids name i }) i { f with places := f.places + 1 } = M at *
  have hold : ∀ x m, look E.nodes x = some m → ∃ m', look M x = some m' ∧ m'.dir = m.dir := fun x m hm => by
    rw [hlk]
    by_cases e1 : x = i
    · rw [if_pos e1]; rw [e1, hi] at hm; injection hm with hm; exact ⟨_, rfl, by rw [← hm]⟩
    · rw [if_neg e1]
      by_cases e2 : x = j
      · rw [if_pos e2]; rw [e2, hj] at hm; injection hm with hm; exact ⟨_, rfl, by rw [← hm]⟩
      · rw [if_neg e2]; exact ⟨m, hm, rfl⟩
  have hnew : ∀ x n, look M x = some n → (x = i ∧ n = { f with places := f.places + 1 }) ∨ (x ≠ i ∧ x = j ∧ n = { nd with kids := Go.Proofs.YtnjabanjgckeoaaGreatDoor.put nd.kids name i }) ∨ (x ≠ i ∧ x ≠ j ∧ look E.nodes x = some n) := fun x n hn => by
    rw [hlk] at hn
    by_cases e1 : x = i
    · rw [if_pos e1] at hn; injection hn with hn; exact .inl ⟨e1, hn.symm⟩
    · rw [if_neg e1] at hn
      by_cases e2 : x = j
      · rw [if_pos e2] at hn; injection hn with hn; exact .inr (.inl ⟨e1, e2, hn.symm⟩)
      · rw [if_neg e2] at hn; exact .inr (.inr ⟨e1, e2, hn⟩)
  have hkid : ∀ x n q, look E.nodes x = some n → q ∈ n.kids → ∃ m, look M q.2 = some m ∧ (m.dir = true → x < q.2) := fun x n q hn hq => by
    obtain ⟨m, h1, h2⟩ := h.kids x n hn q hq
    obtain ⟨m', h3, h4⟩ := hold _ _ h1
    exact ⟨m', h3, fun hd => h2 (h4 ▸ hd)⟩
  refine ⟨k2, ?_, fun x n hn q hq => ?_, fun x n hn => ?_, fun x n hn hd => ?_, fun x n hn hd hx1 => ?_, ?_, fun x n hn => ?_, fun x n hn => ?_, ?_, by have := h.nx; show E.next ≤ _; omega, ?_, ?_⟩
  · obtain ⟨n, h1, h2⟩ := h.root
    obtain ⟨m', h3, h4⟩ := hold _ _ h1
    exact ⟨m', h3, h4.trans h2⟩
  · rcases hnew x n hn with ⟨rfl, rfl⟩ | ⟨_, rfl, rfl⟩ | ⟨_, _, h1⟩
    · exact hkid x f q hi hq
    · rcases mem_putk hq with rfl | hq
      · exact ⟨{ f with places := f.places + 1 }, by rw [hlk, if_pos rfl], fun hd => by rw [show ({ f with places := f.places + 1 } : ENd).dir = f.dir from rfl, hf] at hd; cases hd⟩
      · exact hkid x nd q hj hq
    · exact hkid x n q h1 hq
  · rcases hnew x n hn with ⟨rfl, rfl⟩ | ⟨_, rfl, rfl⟩ | ⟨_, _, h1⟩
    · exact h.names x f hi
    · exact put_nodup (h.names x nd hj) name i
    · exact h.names x n h1
  · show n.kids = [] ∧ n.places = (refs M x : Int)
    rw [hrefs]
    rcases hnew x n hn with ⟨rfl, rfl⟩ | ⟨_, rfl, rfl⟩ | ⟨h0, _, h1⟩
    · obtain ⟨h2, h3⟩ := h.file x f hi hf
      refine ⟨h2, ?_⟩
      show f.places + 1 = _
      rw [if_pos rfl, h3]; push_cast; rfl
    · rw [show ({ nd with kids := Go.Proofs.YtnjabanjgckeoaaGreatDoor.put nd.kids name i } : ENd).dir = nd.dir from rfl, hnd] at hd; cases hd
    · obtain ⟨h2, h3⟩ := h.file x n h1 hd
      exact ⟨h2, by rw [if_neg (Ne.symm h0), h3]; simp⟩
  · show refs M x = 1
    rw [hrefs]
    rcases hnew x n hn with ⟨rfl, rfl⟩ | ⟨h0, rfl, rfl⟩ | ⟨h0, _, h1⟩
    · rw [show ({ f with places := f.places + 1 } : ENd).dir = f.dir from rfl, hf] at hd; cases hd
    · rw [if_neg (Ne.symm h0), h.dirs x nd hj hnd hx1]
    · rw [if_neg (Ne.symm h0), h.dirs x n h1 hd hx1]
  · show refs M 1 = 0
    rw [hrefs, h.top, if_neg]
    rintro rfl
    obtain ⟨n, h1, h2⟩ := h.root
    rw [hi] at h1; injection h1 with h1
    rw [← h1, hf] at h2; cases h2
  · show 1 ≤ x ∧ x < E.next
    rcases hnew x n hn with ⟨rfl, rfl⟩ | ⟨_, rfl, rfl⟩ | ⟨_, _, h1⟩
    · exact h.low x f hi
    · exact h.low x nd hj
    · exact h.low x n h1
  · rcases hnew x n hn with ⟨rfl, rfl⟩ | ⟨_, rfl, rfl⟩ | ⟨_, _, h1⟩
    · exact h.small x f hi
    · exact h.small x nd hj
    · exact h.small x n h1
  · have h1 := hsum fun n => n.kids.length
    have h2 := hsum0 fun n => n.kids.length
    have h3 := len_put hx i
    have h4 := he
    unfold Go.Proofs.YtnjabanjgckeoaaGreatDoor.ents at h4 ⊢
    simp only at h1 h2
    show (M.map _).sum ≤ _
    omega
  · have h1 := hsum fun n => n.data.length
    have h2 := hsum0 fun n => n.data.length
    have h4 := h.sum
    unfold sumE at h4 ⊢
    simp only at h1 h2
    show (M.map _).sum ≤ _
    omega
  · have h1 := h.len
    show M.length ≤ _
    rw [← hM, nodes_len_put hi2, nodes_len_put hj]
    omega
theorem mem_delk {kids : List (ByteArray × Int)} {name : ByteArray} {q : ByteArray × Int} (h : q ∈ del kids name) : q ∈ kids := (del_sub kids name).subset h
theorem Inv.take {E : Et} {B : Nat} (h : Inv E B) {j i : Int} {nd f : ENd} {name : ByteArray} (hj : look E.nodes j = some nd) (hx : look nd.kids name = some i) (hi : look E.nodes i = some f) (hf : f.dir = false) : Inv (takeEx E j name) B := by
  have hnd : nd.dir = true := by
    cases hd : nd.dir with
    | true => rfl
    | false => rw [(h.file j nd hj hd).1] at hx; cases hx
  have hij : j ≠ i := fun e => by rw [← e, hj] at hi; injection hi with hi; rw [hi, hf] at hnd; cases hnd
  have e : takeEx E j name = { E with nodes := Go.Proofs.YtnjabanjgckeoaaGreatDoor.put (Go.Proofs.YtnjabanjgckeoaaGreatDoor.put E.nodes i { f with places := f.places - 1 }) j { nd with kids := del nd.kids name } } := by unfold takeEx; simp only [hj, hx, hi]
  rw [e]
  have hj2 : look (Go.Proofs.YtnjabanjgckeoaaGreatDoor.put E.nodes i { f with places := f.places - 1 }) j = some nd := by rw [look_put, if_neg hij]; exact hj
  have k1 := put_nodup h.keys i { f with places := f.places - 1 }
  have k2 := put_nodup k1 j { nd with kids := del nd.kids name }
  have hlk : ∀ x, look (Go.Proofs.YtnjabanjgckeoaaGreatDoor.put (Go.Proofs.YtnjabanjgckeoaaGreatDoor.put E.nodes i { f with places := f.places - 1 }) j { nd with kids := del nd.kids name }) x = if x = j then some { nd with kids := del nd.kids name } else if x = i then some { f with places := f.places - 1 } else look E.nodes x := fun x => by rw [look_put, look_put]
  have hsum := fun g => sum_put k1 hj2 { nd with kids := del nd.kids name } g
  have hsum0 := fun g => sum_put h.keys hi { f with places := f.places - 1 } g
  have hnm := h.names j nd hj
  have hrefs : ∀ x, refs (Go.Proofs.YtnjabanjgckeoaaGreatDoor.put (Go.Proofs.YtnjabanjgckeoaaGreatDoor.put E.nodes i { f with places := f.places - 1 }) j { nd with kids := del nd.kids name }) x + (if i = x then 1 else 0) = refs E.nodes x := fun x => by
    have h1 := hsum fun n => inK n.kids x
    have h2 := hsum0 fun n => inK n.kids x
    have h3 := inK_del hnm hx x
    unfold refs
    simp only at h1 h2
    omega
  generalize hM : Go.Proofs.YtnjabanjgckeoaaGreatDoor.put (Go.Proofs.YtnjabanjgckeoaaGreatDoor.put E.nodes i { f with places := f.places - 1 }) j { nd with kids := del nd.kids name } = M at *
  have hold : ∀ x m, look E.nodes x = some m → ∃ m', look M x = some m' ∧ m'.dir = m.dir := fun x m hm => by
    rw [hlk]
    by_cases e1 : x = j
    · rw [if_pos e1]; rw [e1, hj] at hm; injection hm with hm; exact ⟨_, rfl, by rw [← hm]⟩
    · rw [if_neg e1]
      by_cases e2 : x = i
      · rw [if_pos e2]; rw [e2, hi] at hm; injection hm with hm; exact ⟨_, rfl, by rw [← hm]⟩
      · rw [if_neg e2]; exact ⟨m, hm, rfl⟩
  have hnew : ∀ x n, look M x = some n → (x = j ∧ n = { nd with kids := del nd.kids name }) ∨ (x ≠ j ∧ x = i ∧ n = { f with places := f.places - 1 }) ∨ (x ≠ j ∧ x ≠ i ∧ look E.nodes x = some n) := fun x n hn => by
    rw [hlk] at hn
    by_cases e1 : x = j
    · rw [if_pos e1] at hn; injection hn with hn; exact .inl ⟨e1, hn.symm⟩
    · rw [if_neg e1] at hn
      by_cases e2 : x = i
      · rw [if_pos e2] at hn; injection hn with hn; exact .inr (.inl ⟨e1, e2, hn.symm⟩)
      · rw [if_neg e2] at hn; exact .inr (.inr ⟨e1, e2, hn⟩)
  have hkid : ∀ x n q, look E.nodes x = some n → q ∈ n.kids → ∃ m, look M q.2 = some m ∧ (m.dir = true → x < q.2) := fun x n q hn hq => by
    obtain ⟨m, h1, h2⟩ := h.kids x n hn q hq
    obtain ⟨m', h3, h4⟩ := hold _ _ h1
    exact ⟨m', h3, fun hd => h2 (h4 ▸ hd)⟩
  refine ⟨k2, ?_, fun x n hn q hq => ?_, fun x n hn => ?_, fun x n hn hd => ?_, fun x n hn hd hx1 => ?_, ?_, fun x n hn => ?_, fun x n hn => ?_, ?_, h.nx, ?_, ?_⟩
  · obtain ⟨n, h1, h2⟩ := h.root
    obtain ⟨m', h3, h4⟩ := hold _ _ h1
    exact ⟨m', h3, h4.trans h2⟩
  · rcases hnew x n hn with ⟨rfl, rfl⟩ | ⟨_, rfl, rfl⟩ | ⟨_, _, h1⟩
    · exact hkid x nd q hj (mem_delk hq)
    · exact hkid x f q hi hq
    · exact hkid x n q h1 hq
  · rcases hnew x n hn with ⟨rfl, rfl⟩ | ⟨_, rfl, rfl⟩ | ⟨_, _, h1⟩
    · exact hnm.sublist ((del_sub nd.kids name).map _)
    · exact h.names x f hi
    · exact h.names x n h1
  · show n.kids = [] ∧ n.places = (refs M x : Int)
    have hr := hrefs x
    rcases hnew x n hn with ⟨rfl, rfl⟩ | ⟨_, rfl, rfl⟩ | ⟨_, h0, h1⟩
    · rw [show ({ nd with kids := del nd.kids name } : ENd).dir = nd.dir from rfl, hnd] at hd; cases hd
    · obtain ⟨h2, h3⟩ := h.file x f hi hf
      refine ⟨h2, ?_⟩
      show f.places - 1 = _
      rw [if_pos rfl] at hr
      rw [h3, ← hr]; push_cast; omega
    · obtain ⟨h2, h3⟩ := h.file x n h1 hd
      rw [if_neg (Ne.symm h0)] at hr
      exact ⟨h2, by rw [h3, ← hr]; simp⟩
  · show refs M x = 1
    have hr := hrefs x
    rcases hnew x n hn with ⟨rfl, rfl⟩ | ⟨h0, rfl, rfl⟩ | ⟨_, h0, h1⟩
    · rw [if_neg (Ne.symm hij), h.dirs x nd hj hnd hx1] at hr; exact hr
    · rw [show ({ f with places := f.places - 1 } : ENd).dir = f.dir from rfl, hf] at hd; cases hd
    · rw [if_neg (Ne.symm h0), h.dirs x n h1 hd hx1] at hr; exact hr
  · show refs M 1 = 0
    have := hrefs 1
    rw [h.top] at this
    omega
  · show 1 ≤ x ∧ x < E.next
    rcases hnew x n hn with ⟨rfl, rfl⟩ | ⟨_, rfl, rfl⟩ | ⟨_, _, h1⟩
    · exact h.low x nd hj
    · exact h.low x f hi
    · exact h.low x n h1
  · rcases hnew x n hn with ⟨rfl, rfl⟩ | ⟨_, rfl, rfl⟩ | ⟨_, _, h1⟩
    · exact h.small x nd hj
    · exact h.small x f hi
    · exact h.small x n h1
  · have h1 := hsum fun n => n.kids.length
    have h2 := hsum0 fun n => n.kids.length
    have h3 := (del_sub nd.kids name).length_le
    have h4 := h.ents
    unfold Go.Proofs.YtnjabanjgckeoaaGreatDoor.ents at h4 ⊢
    simp only at h1 h2
    show (M.map _).sum ≤ _
    omega
  · have h1 := hsum fun n => n.data.length
    have h2 := hsum0 fun n => n.data.length
    have h4 := h.sum
    unfold sumE at h4 ⊢
    simp only at h1 h2
    show (M.map _).sum ≤ _
    omega
  · have h1 := h.len
    show M.length ≤ _
    rw [← hM, nodes_len_put hj2, nodes_len_put hi]
    omega
theorem Inv.write {E : Et} {B : Nat} (h : Inv E B) {i : Int} {f : ENd} (hi : look E.nodes i = some f) (hf : f.dir = false) {zs : List Int} (hz : zs.length ≤ 3500) : Inv { E with nodes := Go.Proofs.YtnjabanjgckeoaaGreatDoor.put E.nodes i { f with data := zs } } (B + 1) := by
  have hlk : ∀ x, look (Go.Proofs.YtnjabanjgckeoaaGreatDoor.put E.nodes i { f with data := zs }) x = if x = i then some { f with data := zs } else look E.nodes x := fun x => look_put ..
  have hsum := fun g => sum_put h.keys hi { f with data := zs } g
  have k2 := put_nodup h.keys i { f with data := zs }
  have hrefs : ∀ x, refs (Go.Proofs.YtnjabanjgckeoaaGreatDoor.put E.nodes i { f with data := zs }) x = refs E.nodes x := fun x => by
    have h1 := hsum fun n => inK n.kids x
    unfold refs
    simp only at h1
    omega
  have hlen := nodes_len_put hi { f with data := zs }
  generalize hM : Go.Proofs.YtnjabanjgckeoaaGreatDoor.put E.nodes i { f with data := zs } = M at *
  have hold : ∀ x m, look E.nodes x = some m → ∃ m', look M x = some m' ∧ m'.dir = m.dir := fun x m hm => by
    rw [hlk]
    by_cases e1 : x = i
    · rw [if_pos e1]; rw [e1, hi] at hm; injection hm with hm; exact ⟨_, rfl, by rw [← hm]⟩
    · rw [if_neg e1]; exact ⟨m, hm, rfl⟩
  have hnew : ∀ x n, look M x = some n → ∃ n0, look E.nodes x = some n0 ∧ n0.dir = n.dir ∧ n0.kids = n.kids ∧ n0.places = n.places := fun x n hn => by
    rw [hlk] at hn
    by_cases e1 : x = i
    · rw [if_pos e1] at hn; injection hn with hn; exact ⟨f, e1 ▸ hi, by rw [← hn], by rw [← hn], by rw [← hn]⟩
    · rw [if_neg e1] at hn; exact ⟨n, hn, rfl, rfl, rfl⟩
  refine ⟨k2, ?_, fun x n hn q hq => ?_, fun x n hn => ?_, fun x n hn hd => ?_, fun x n hn hd hx1 => ?_, by show refs M 1 = 0; rw [hrefs, h.top], fun x n hn => ?_, fun x n hn => ?_, ?_, by have := h.nx; show E.next ≤ _; omega, ?_, by show M.length ≤ _; have := h.len; omega⟩
  · obtain ⟨n, h1, h2⟩ := h.root
    obtain ⟨m', h3, h4⟩ := hold _ _ h1
    exact ⟨m', h3, h4.trans h2⟩
  · obtain ⟨n0, h1, _, h3, _⟩ := hnew x n hn
    obtain ⟨m, h4, h5⟩ := h.kids x n0 h1 q (h3 ▸ hq)
    obtain ⟨m', h6, h7⟩ := hold _ _ h4
    exact ⟨m', h6, fun hd => h5 (h7 ▸ hd)⟩
  · obtain ⟨n0, h1, _, h3, _⟩ := hnew x n hn
    exact h3 ▸ h.names x n0 h1
  · show n.kids = [] ∧ n.places = (refs M x : Int)
    obtain ⟨n0, h1, h2, h3, h4⟩ := hnew x n hn
    rw [hrefs, ← h3, ← h4]
    exact h.file x n0 h1 (h2.trans hd)
  · show refs M x = 1
    obtain ⟨n0, h1, h2, h3, h4⟩ := hnew x n hn
    rw [hrefs]
    exact h.dirs x n0 h1 (h2.trans hd) hx1
  · obtain ⟨n0, h1, _⟩ := hnew x n hn
    exact h.low x n0 h1
  · rw [hlk] at hn
    by_cases e1 : x = i
    · rw [if_pos e1] at hn; injection hn with hn; rw [← hn]; exact hz
    · rw [if_neg e1] at hn; exact h.small x n hn
  · have h1 := hsum fun n => n.kids.length
    have h4 := h.ents
    unfold Go.Proofs.YtnjabanjgckeoaaGreatDoor.ents at h4 ⊢
    simp only at h1
    show (M.map _).sum ≤ _
    omega
  · have h1 := hsum fun n => n.data.length
    have h4 := h.sum
    unfold sumE at h4 ⊢
    simp only at h1
    show (M.map _).sum ≤ _
    omega
end Go.Proofs.YtnjabanjgckeoaaGreatDoor
end

/- What always holds, behind a new directory, a new file, a directory that goes. -/
section
namespace Go.Proofs.YtnjabanjgckeoaaGreatDoor
open Go.RowKit
set_option linter.unusedVariables false
set_option linter.unusedSimpArgs false

theorem Inv.mkdir {E : Et} {B : Nat} (h : Inv E B) {j : Int} {nd : ENd} {name : ByteArray} (hj : look E.nodes j = some nd) (hnd : nd.dir = true) (hx : look nd.kids name = none) : Inv (mkdirE E j nd name) (B + 1) := by
  have hfr := h.fresh
  have hjn : j ≠ E.next := fun e => by rw [e, hfr] at hj; cases hj
  have hj2 : look (Go.Proofs.YtnjabanjgckeoaaGreatDoor.put E.nodes E.next ⟨true, [], [], 0⟩) j = some nd := by rw [look_put, if_neg hjn]; exact hj
  have k1 := put_nodup h.keys E.next (⟨true, [], [], 0⟩ : ENd)
  have k2 := put_nodup k1 j { nd with kids := Go.Proofs.YtnjabanjgckeoaaGreatDoor.put nd.kids name E.next }
  have hlk : ∀ x, look (Go.Proofs.YtnjabanjgckeoaaGreatDoor.put (Go.Proofs.YtnjabanjgckeoaaGreatDoor.put E.nodes E.next ⟨true, [], [], 0⟩) j { nd with kids := Go.Proofs.YtnjabanjgckeoaaGreatDoor.put nd.kids name E.next }) x = if x = j then some { nd with kids := Go.Proofs.YtnjabanjgckeoaaGreatDoor.put nd.kids name E.next } else if x = E.next then some ⟨true, [], [], 0⟩ else look E.nodes x := fun x => by rw [look_put, look_put]
  have hsum := fun g => sum_put k1 hj2 { nd with kids := Go.Proofs.YtnjabanjgckeoaaGreatDoor.put nd.kids name E.next } g
  have hsum0 := fun g => sum_new hfr (⟨true, [], [], 0⟩ : ENd) g
  have hrefs : ∀ x, refs (Go.Proofs.YtnjabanjgckeoaaGreatDoor.put (Go.Proofs.YtnjabanjgckeoaaGreatDoor.put E.nodes E.next ⟨true, [], [], 0⟩) j { nd with kids := Go.Proofs.YtnjabanjgckeoaaGreatDoor.put nd.kids name E.next }) x = refs E.nodes x + if E.next = x then 1 else 0 := fun x => by
    have h1 := hsum fun n => inK n.kids x
    have h2 := hsum0 fun n => inK n.kids x
    have h3 := inK_put hx E.next x
    have h4 : inK [] x = 0 := rfl
    unfold refs
    try simp only at h1 h2
    omega
  have hlen : (Go.Proofs.YtnjabanjgckeoaaGreatDoor.put (Go.Proofs.YtnjabanjgckeoaaGreatDoor.put E.nodes E.next ⟨true, [], [], 0⟩) j { nd with kids := Go.Proofs.YtnjabanjgckeoaaGreatDoor.put nd.kids name E.next }).length = E.nodes.length + 1 := by
    rw [nodes_len_put hj2, put_new (look_none_key hfr)]; simp
  show Inv { E with next := E.next + 1, nodes := Go.Proofs.YtnjabanjgckeoaaGreatDoor.put (Go.Proofs.YtnjabanjgckeoaaGreatDoor.put E.nodes E.next ⟨true, [], [], 0⟩) j { nd with kids := Go.Proofs.YtnjabanjgckeoaaGreatDoor.put nd.kids name E.next } } (B + 1)
  generalize hM : Go.Proofs.YtnjabanjgckeoaaGreatDoor.put (Go.Proofs.YtnjabanjgckeoaaGreatDoor.put E.nodes E.next ⟨true, [], [], 0⟩) j { nd with kids := Go.Proofs.YtnjabanjgckeoaaGreatDoor.put nd.kids name E.next } = M at *
  have hold : ∀ x m, look E.nodes x = some m → ∃ m', look M x = some m' ∧ m'.dir = m.dir := fun x m hm => by
    rw [hlk]
    by_cases e1 : x = j
    · rw [if_pos e1]; rw [e1, hj] at hm; injection hm with hm; exact ⟨_, rfl, by rw [← hm]⟩
    · rw [if_neg e1, if_neg (fun e => by rw [e, hfr] at hm; cases hm)]; exact ⟨m, hm, rfl⟩
  have hnew : ∀ x n, look M x = some n → (x = j ∧ n = { nd with kids := Go.Proofs.YtnjabanjgckeoaaGreatDoor.put nd.kids name E.next }) ∨ (x ≠ j ∧ x = E.next ∧ n = ⟨true, [], [], 0⟩) ∨ (x ≠ j ∧ x ≠ E.next ∧ look E.nodes x = some n) := fun x n hn => by
    rw [hlk] at hn
    by_cases e1 : x = j
    · rw [if_pos e1] at hn; injection hn with hn; exact .inl ⟨e1, hn.symm⟩
    · rw [if_neg e1] at hn
      by_cases e2 : x = E.next
      · rw [if_pos e2] at hn; injection hn with hn; exact .inr (.inl ⟨e1, e2, hn.symm⟩)
      · rw [if_neg e2] at hn; exact .inr (.inr ⟨e1, e2, hn⟩)
  have hkid : ∀ x n q, look E.nodes x = some n → q ∈ n.kids → ∃ m, look M q.2 = some m ∧ (m.dir = true → x < q.2) := fun x n q hn hq => by
    obtain ⟨m, h1, h2⟩ := h.kids x n hn q hq
    obtain ⟨m', h3, h4⟩ := hold _ _ h1
    exact ⟨m', h3, fun hd => h2 (h4 ▸ hd)⟩
  have hfirst := h.first
  refine ⟨k2, ?_, fun x n hn q hq => ?_, fun x n hn => ?_, fun x n hn hd => ?_, fun x n hn hd hx1 => ?_, ?_, fun x n hn => ?_, fun x n hn => ?_, ?_, by have := h.nx; show E.next + 1 ≤ _; push_cast; omega, ?_, by show M.length ≤ _; have := h.len; omega⟩
  · obtain ⟨n, h1, h2⟩ := h.root
    obtain ⟨m', h3, h4⟩ := hold _ _ h1
    exact ⟨m', h3, h4.trans h2⟩
  · rcases hnew x n hn with ⟨rfl, rfl⟩ | ⟨_, rfl, rfl⟩ | ⟨_, _, h1⟩
    · rcases mem_putk hq with rfl | hq
      · exact ⟨⟨true, [], [], 0⟩, by rw [hlk, if_neg (Ne.symm hjn), if_pos rfl], fun _ => (h.low _ _ hj).2⟩
      · exact hkid x nd q hj hq
    · cases hq
    · exact hkid x n q h1 hq
  · rcases hnew x n hn with ⟨rfl, rfl⟩ | ⟨_, rfl, rfl⟩ | ⟨_, _, h1⟩
    · exact put_nodup (h.names x nd hj) name E.next
    · exact List.nodup_nil
    · exact h.names x n h1
  · show n.kids = [] ∧ n.places = (refs M x : Int)
    rw [hrefs]
    rcases hnew x n hn with ⟨rfl, rfl⟩ | ⟨_, rfl, rfl⟩ | ⟨_, h0, h1⟩
    · rw [show ({ nd with kids := Go.Proofs.YtnjabanjgckeoaaGreatDoor.put nd.kids name E.next } : ENd).dir = nd.dir from rfl, hnd] at hd; cases hd
    · cases hd
    · obtain ⟨h2, h3⟩ := h.file x n h1 hd
      exact ⟨h2, by rw [if_neg (Ne.symm h0), h3]; simp⟩
  · show refs M x = 1
    rw [hrefs]
    rcases hnew x n hn with ⟨rfl, rfl⟩ | ⟨_, rfl, rfl⟩ | ⟨_, h0, h1⟩
    · rw [if_neg (Ne.symm hjn), h.dirs x nd hj hnd hx1]
    · rw [if_pos rfl, h.freshRefs]
    · rw [if_neg (Ne.symm h0), h.dirs x n h1 hd hx1]
  · show refs M 1 = 0
    rw [hrefs, h.top, if_neg (by omega)]
  · show 1 ≤ x ∧ x < E.next + 1
    rcases hnew x n hn with ⟨rfl, rfl⟩ | ⟨_, rfl, rfl⟩ | ⟨_, _, h1⟩
    · have := h.low x nd hj; omega
    · omega
    · have := h.low x n h1; omega
  · rcases hnew x n hn with ⟨rfl, rfl⟩ | ⟨_, rfl, rfl⟩ | ⟨_, _, h1⟩
    · exact h.small x nd hj
    · exact Nat.zero_le _
    · exact h.small x n h1
  · have h1 := hsum fun n => n.kids.length
    have h2 := hsum0 fun n => n.kids.length
    have h3 := len_put hx E.next
    have h4 := h.ents
    unfold Go.Proofs.YtnjabanjgckeoaaGreatDoor.ents at h4 ⊢
    simp only [List.length_nil] at h1 h2
    show (M.map _).sum ≤ _
    omega
  · have h1 := hsum fun n => n.data.length
    have h2 := hsum0 fun n => n.data.length
    have h4 := h.sum
    unfold sumE at h4 ⊢
    simp only [List.length_nil] at h1 h2
    show (M.map _).sum ≤ _
    omega
/-- A new file that stands nowhere. -/
theorem Inv.file0 {E : Et} {B : Nat} (h : Inv E B) {zs : List Int} (hz : zs.length ≤ 3500) : Inv { E with next := E.next + 1, nodes := Go.Proofs.YtnjabanjgckeoaaGreatDoor.put E.nodes E.next ⟨false, [], zs, 0⟩ } (B + 1) ∧ Go.Proofs.YtnjabanjgckeoaaGreatDoor.ents (Go.Proofs.YtnjabanjgckeoaaGreatDoor.put E.nodes E.next ⟨false, [], zs, 0⟩) = Go.Proofs.YtnjabanjgckeoaaGreatDoor.ents E.nodes := by
  have hfr := h.fresh
  have k1 := put_nodup h.keys E.next (⟨false, [], zs, 0⟩ : ENd)
  have hlk : ∀ x, look (Go.Proofs.YtnjabanjgckeoaaGreatDoor.put E.nodes E.next ⟨false, [], zs, 0⟩) x = if x = E.next then some ⟨false, [], zs, 0⟩ else look E.nodes x := fun x => by rw [look_put]
  have hsum0 := fun g => sum_new hfr (⟨false, [], zs, 0⟩ : ENd) g
  have hrefs : ∀ x, refs (Go.Proofs.YtnjabanjgckeoaaGreatDoor.put E.nodes E.next ⟨false, [], zs, 0⟩) x = refs E.nodes x := fun x => by
    have h2 := hsum0 fun n => inK n.kids x
    have h4 : inK [] x = 0 := rfl
    unfold refs
    try simp only at h2
    omega
  have hents : Go.Proofs.YtnjabanjgckeoaaGreatDoor.ents (Go.Proofs.YtnjabanjgckeoaaGreatDoor.put E.nodes E.next ⟨false, [], zs, 0⟩) = Go.Proofs.YtnjabanjgckeoaaGreatDoor.ents E.nodes := by
    have h2 := hsum0 fun n => n.kids.length
    unfold Go.Proofs.YtnjabanjgckeoaaGreatDoor.ents
    simp only [List.length_nil] at h2
    omega
  have hlen : (Go.Proofs.YtnjabanjgckeoaaGreatDoor.put E.nodes E.next ⟨false, [], zs, 0⟩).length = E.nodes.length + 1 := by
    rw [put_new (look_none_key hfr)]; simp
  have hfrr := h.freshRefs
  have hfirst := h.first
  generalize hM : Go.Proofs.YtnjabanjgckeoaaGreatDoor.put E.nodes E.next ⟨false, [], zs, 0⟩ = M at *
  have hold : ∀ x m, look E.nodes x = some m → look M x = some m := fun x m hm => by
    rw [hlk, if_neg (fun e => by rw [e, hfr] at hm; cases hm)]; exact hm
  have hnew : ∀ x n, look M x = some n → (x = E.next ∧ n = ⟨false, [], zs, 0⟩) ∨ (x ≠ E.next ∧ look E.nodes x = some n) := fun x n hn => by
    rw [hlk] at hn
    by_cases e1 : x = E.next
    · rw [if_pos e1] at hn; injection hn with hn; exact .inl ⟨e1, hn.symm⟩
    · rw [if_neg e1] at hn; exact .inr ⟨e1, hn⟩
  refine ⟨⟨k1, ?_, fun x n hn q hq => ?_, fun x n hn => ?_, fun x n hn hd => ?_, fun x n hn hd hx1 => ?_, by show refs M 1 = 0; rw [hrefs, h.top], fun x n hn => ?_, fun x n hn => ?_, by show Go.Proofs.YtnjabanjgckeoaaGreatDoor.ents M ≤ _; rw [hents]; have := h.ents; omega, by have := h.nx; show E.next + 1 ≤ _; push_cast; omega, ?_, by show M.length ≤ _; have := h.len; omega⟩, hents⟩
  · obtain ⟨n, h1, h2⟩ := h.root
    exact ⟨n, hold _ _ h1, h2⟩
  · rcases hnew x n hn with ⟨rfl, rfl⟩ | ⟨_, h1⟩
    · cases hq
    · obtain ⟨m, h3, h4⟩ := h.kids x n h1 q hq
      exact ⟨m, hold _ _ h3, h4⟩
  · rcases hnew x n hn with ⟨rfl, rfl⟩ | ⟨_, h1⟩
    · exact List.nodup_nil
    · exact h.names x n h1
  · show n.kids = [] ∧ n.places = (refs M x : Int)
    rw [hrefs]
    rcases hnew x n hn with ⟨rfl, rfl⟩ | ⟨_, h1⟩
    · exact ⟨rfl, by rw [hfrr]; rfl⟩
    · exact h.file x n h1 hd
  · show refs M x = 1
    rw [hrefs]
    rcases hnew x n hn with ⟨rfl, rfl⟩ | ⟨_, h1⟩
    · cases hd
    · exact h.dirs x n h1 hd hx1
  · show 1 ≤ x ∧ x < E.next + 1
    rcases hnew x n hn with ⟨rfl, rfl⟩ | ⟨_, h1⟩
    · omega
    · have := h.low x n h1; omega
  · rcases hnew x n hn with ⟨rfl, rfl⟩ | ⟨_, h1⟩
    · exact hz
    · exact h.small x n h1
  · have h2 := hsum0 fun n => n.data.length
    have h4 := h.sum
    unfold sumE at h4 ⊢
    try simp only at h2
    show (M.map _).sum ≤ _
    omega
theorem Inv.create {E : Et} {B : Nat} (h : Inv E B) {j : Int} {nd : ENd} {name : ByteArray} (hj : look E.nodes j = some nd) (hnd : nd.dir = true) (hx : look nd.kids name = none) {zs : List Int} (hz : zs.length ≤ 3500) : Inv (createE E j nd name zs) (B + 1) := by
  obtain ⟨h1, h2⟩ := h.file0 hz
  have hjn : j ≠ E.next := fun e => by rw [e, h.fresh] at hj; cases hj
  have hj2 : look (Go.Proofs.YtnjabanjgckeoaaGreatDoor.put E.nodes E.next ⟨false, [], zs, 0⟩) j = some nd := by rw [look_put, if_neg hjn]; exact hj
  have hi2 : look (Go.Proofs.YtnjabanjgckeoaaGreatDoor.put E.nodes E.next (⟨false, [], zs, 0⟩ : ENd)) E.next = some ⟨false, [], zs, 0⟩ := by rw [look_put, if_pos rfl]
  have h3 := h1.put (B' := B + 1) (Nat.le_refl _) (by show Go.Proofs.YtnjabanjgckeoaaGreatDoor.ents (Go.Proofs.YtnjabanjgckeoaaGreatDoor.put E.nodes E.next ⟨false, [], zs, 0⟩) + 1 ≤ _; rw [h2]; have := h.ents; omega) hj2 hnd hx hi2 rfl
  have e : putEx { E with next := E.next + 1, nodes := Go.Proofs.YtnjabanjgckeoaaGreatDoor.put E.nodes E.next ⟨false, [], zs, 0⟩ } j name E.next = createE E j nd name zs := by
    unfold putEx createE
    rw [hj2, hi2]
    simp
  rwa [e] at h3
def rmdirE (E : Et) (j : Int) (nd : ENd) (name : ByteArray) (i : Int) : Et := { E with nodes := del (put E.nodes j { nd with kids := del nd.kids name }) i }
/-- Behind a directory that goes nothing tells its number. -/
theorem Inv.lone {E : Et} {B : Nat} (h : Inv E B) {j i : Int} {nd f : ENd} {name : ByteArray} (hj : look E.nodes j = some nd) (hx : look nd.kids name = some i) (hi : look E.nodes i = some f) (hf : f.dir = true) : i ≠ 1 ∧ refs (Go.Proofs.YtnjabanjgckeoaaGreatDoor.put E.nodes j { nd with kids := del nd.kids name }) i = 0 := by
  have h1 : i ≠ 1 := fun e => refs_zero h.top (look_mem hj) (look_mem hx) e
  have h2 := sum_put h.keys hj { nd with kids := del nd.kids name } fun n => inK n.kids i
  have h3 := inK_del (h.names j nd hj) hx i
  have h4 := h.dirs i f hi hf h1
  rw [if_pos rfl] at h3
  unfold refs at h4 ⊢
  try simp only at h2
  exact ⟨h1, by omega⟩
theorem Inv.rm {E : Et} {B : Nat} (h : Inv E B) {j i : Int} {nd f : ENd} {name : ByteArray} (hj : look E.nodes j = some nd) (hx : look nd.kids name = some i) (hi : look E.nodes i = some f) (hf : f.dir = true) (hk : f.kids = []) : Inv (rmdirE E j nd name i) B := by
  obtain ⟨hi1, hlone⟩ := h.lone hj hx hi hf
  have hnd : nd.dir = true := by
    cases hd : nd.dir with
    | true => rfl
    | false => rw [(h.file j nd hj hd).1] at hx; cases hx
  have hij : i ≠ j := fun e => by
    rw [e, hj] at hi
    injection hi with hi
    rw [hi, hk] at hx; cases hx
  have hi2 : look (Go.Proofs.YtnjabanjgckeoaaGreatDoor.put E.nodes j { nd with kids := del nd.kids name }) i = some f := by rw [look_put, if_neg hij]; exact hi
  have k1 := put_nodup h.keys j { nd with kids := del nd.kids name }
  have k2 : ((del (Go.Proofs.YtnjabanjgckeoaaGreatDoor.put E.nodes j { nd with kids := del nd.kids name }) i).map (·.1)).Nodup := k1.sublist ((del_sub _ i).map _)
  have hlk : ∀ x, look (del (Go.Proofs.YtnjabanjgckeoaaGreatDoor.put E.nodes j { nd with kids := del nd.kids name }) i) x = if x = i then none else if x = j then some { nd with kids := del nd.kids name } else look E.nodes x := fun x => by
    by_cases e : x = i
    · rw [if_pos e, e, look_del_same k1]
    · rw [if_neg e, look_del_ne e, look_put]
  have hsum := fun g => sum_del k1 hi2 g
  have hsum0 := fun g => sum_put h.keys hj { nd with kids := del nd.kids name } g
  have hnm := h.names j nd hj
  have hrefs : ∀ x, refs (del (Go.Proofs.YtnjabanjgckeoaaGreatDoor.put E.nodes j { nd with kids := del nd.kids name }) i) x + (if i = x then 1 else 0) = refs E.nodes x := fun x => by
    have h1 := hsum fun n => inK n.kids x
    have h2 := hsum0 fun n => inK n.kids x
    have h3 := inK_del hnm hx x
    have h5 : inK f.kids x = 0 := by rw [hk]; rfl
    unfold refs
    try simp only at h1 h2
    omega
  have hrefs0 : refs (del (Go.Proofs.YtnjabanjgckeoaaGreatDoor.put E.nodes j { nd with kids := del nd.kids name }) i) i = 0 := by
    have h1 := hsum fun n => inK n.kids i
    unfold refs at hlone ⊢
    try simp only at h1
    omega
  have hlen := (del_sub (Go.Proofs.YtnjabanjgckeoaaGreatDoor.put E.nodes j { nd with kids := del nd.kids name }) i).length_le
  rw [nodes_len_put hj] at hlen
  show Inv { E with nodes := del (Go.Proofs.YtnjabanjgckeoaaGreatDoor.put E.nodes j { nd with kids := del nd.kids name }) i } B
  generalize hM : del (Go.Proofs.YtnjabanjgckeoaaGreatDoor.put E.nodes j { nd with kids := del nd.kids name }) i = M at *
  have hold : ∀ x m, x ≠ i → look E.nodes x = some m → ∃ m', look M x = some m' ∧ m'.dir = m.dir := fun x m hxi hm => by
    rw [hlk, if_neg hxi]
    by_cases e1 : x = j
    · rw [if_pos e1]; rw [e1, hj] at hm; injection hm with hm; exact ⟨_, rfl, by rw [← hm]⟩
    · rw [if_neg e1]; exact ⟨m, hm, rfl⟩
  have hnew : ∀ x n, look M x = some n → x ≠ i ∧ ((x = j ∧ n = { nd with kids := del nd.kids name }) ∨ (x ≠ j ∧ look E.nodes x = some n)) := fun x n hn => by
    rw [hlk] at hn
    by_cases e0 : x = i
    · rw [if_pos e0] at hn; cases hn
    · rw [if_neg e0] at hn
      refine ⟨e0, ?_⟩
      by_cases e1 : x = j
      · rw [if_pos e1] at hn; injection hn with hn; exact .inl ⟨e1, hn.symm⟩
      · rw [if_neg e1] at hn; exact .inr ⟨e1, hn⟩
  have hsub : ∀ x n, look M x = some n → ∃ n0, look E.nodes x = some n0 ∧ n0.dir = n.dir ∧ (∀ q ∈ n.kids, q ∈ n0.kids) ∧ n0.places = n.places ∧ n0.data = n.data ∧ (n0.kids = [] → n.kids = []) := fun x n hn => by
    obtain ⟨_, ⟨rfl, rfl⟩ | ⟨_, h1⟩⟩ := hnew x n hn
    · exact ⟨nd, hj, rfl, fun q hq => mem_delk hq, rfl, rfl, fun e => by show del nd.kids name = []; rw [e]; rfl⟩
    · exact ⟨n, h1, rfl, fun q hq => hq, rfl, rfl, fun e => e⟩
  have hne : ∀ x n, look M x = some n → ∀ q ∈ n.kids, q.2 ≠ i := fun x n hn q hq => refs_zero hrefs0 (look_mem hn) hq
  refine ⟨k2, ?_, fun x n hn q hq => ?_, fun x n hn => ?_, fun x n hn hd => ?_, fun x n hn hd hx1 => ?_, ?_, fun x n hn => ?_, fun x n hn => ?_, ?_, h.nx, ?_, by show M.length ≤ _; have := h.len; omega⟩
  · obtain ⟨n, h1, h2⟩ := h.root
    obtain ⟨m', h3, h4⟩ := hold _ _ (Ne.symm hi1) h1
    exact ⟨m', h3, h4.trans h2⟩
  · obtain ⟨n0, h1, _, h3, _⟩ := hsub x n hn
    obtain ⟨m, h4, h5⟩ := h.kids x n0 h1 q (h3 q hq)
    obtain ⟨m', h6, h7⟩ := hold _ _ (hne x n hn q hq) h4
    exact ⟨m', h6, fun hd => h5 (h7 ▸ hd)⟩
  · obtain ⟨_, ⟨rfl, rfl⟩ | ⟨_, h1⟩⟩ := hnew x n hn
    · exact hnm.sublist ((del_sub nd.kids name).map _)
    · exact h.names x n h1
  · show n.kids = [] ∧ n.places = (refs M x : Int)
    obtain ⟨n0, h1, h2, _, h4, _, h6⟩ := hsub x n hn
    obtain ⟨g1, g2⟩ := h.file x n0 h1 (h2.trans hd)
    have hr := hrefs x
    rw [if_neg (Ne.symm (hnew x n hn).1)] at hr
    exact ⟨h6 g1, by rw [← h4, g2, ← hr]; simp⟩
  · show refs M x = 1
    obtain ⟨n0, h1, h2, _⟩ := hsub x n hn
    have hr := hrefs x
    rw [if_neg (Ne.symm (hnew x n hn).1), h.dirs x n0 h1 (h2.trans hd) hx1] at hr
    exact hr
  · show refs M 1 = 0
    have := hrefs 1
    rw [h.top] at this
    omega
  · obtain ⟨n0, h1, _⟩ := hsub x n hn
    exact h.low x n0 h1
  · obtain ⟨n0, h1, _, _, _, h5, _⟩ := hsub x n hn
    rw [← h5]; exact h.small x n0 h1
  · have h1 := hsum fun n => n.kids.length
    have h2 := hsum0 fun n => n.kids.length
    have h3 := (del_sub nd.kids name).length_le
    have h4 := h.ents
    unfold Go.Proofs.YtnjabanjgckeoaaGreatDoor.ents at h4 ⊢
    try simp only at h1 h2
    show (M.map _).sum ≤ _
    omega
  · have h1 := hsum fun n => n.data.length
    have h2 := hsum0 fun n => n.data.length
    have h4 := h.sum
    unfold sumE at h4 ⊢
    try simp only at h1 h2
    show (M.map _).sum ≤ _
    omega
end Go.Proofs.YtnjabanjgckeoaaGreatDoor
end
