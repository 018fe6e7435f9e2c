/- turn, of what has a second path. -/
import Derived.Test.YtamkfadammlhbaaGreatDoorTree16
namespace Go.Proofs.YtamkfadammlhbaaGreatDoor
open Go.RowKit
open Go.ChangeMaps (setBlock)
set_option linter.unusedVariables false
set_option linter.unusedSimpArgs false
set_option maxRecDepth 100000

set_option maxHeartbeats 2000000 in
theorem turn_bad {w0 w : World} {S : Blocks} {L : List Rw} {t : Nat} {T : Tr} (hO : Own ⟨w0, S⟩ w L) (H : Tree S (Pc L) t T) (hm : Mx w) {i : Int} {nda : Nd} {na : ByteArray} {κ : Int} (hκ : κ = 4 ∨ κ = 5)
    (p q : ByteArray) (hq : q.size ≤ maxLen) (v : Value) (hv : ∃ a n c, v = .slice a n c) {c : Int} (hc : placeT T q.data.toList = (c, none)) (hc0 : (c != 0) = true) :
    Calls Tryz.prog 68 #[.pointer (some ⟨t, 0, none⟩), .agg #[.pointer (some ⟨nda.b, 0, none⟩), .string na], .int .i64 i, .agg (opL κ p q v).toArray] w (DoL w0 S L t T w (fun T2 => T2 = T) (.int .i64 c)) := by
  obtain ⟨va, vn, vc, rfl⟩ := hv
  obtain ⟨w1, S2, hw1, hsz, hO2, H1, m1, m2, hsub, hlt, hlow⟩ := two_boxes0 hO H (boxP nda na) (.cells #[.int .i64 κ, .string p, .string q, .slice va vn vc] 38)
  have q0 : w1.cell? ⟨w.heap.size + 1, 0, none⟩ = some (.int .i64 κ) := by rw [hO2.cellB m2]; rfl
  have q2 : w1.cell? ⟨w.heap.size + 1, 2, none⟩ = some (.string q) := by rw [hO2.cellB m2]; rfl
  have hB1 : Below w.heap.size w w1 := by rw [hw1]; exact ((Below.refl _ w).alloc (Nat.le_refl _) _).alloc (by simp) _
  have hpl := place_any (H1.at_.inWorld hO2) H.good q hq (hm.later hB1)
  rw [hc] at hpl
  have hD : ∀ w', Own ⟨w0, S2⟩ w' L → DoL w0 S L t T w (fun T2 => T2 = T) (.int .i64 c) (.returned (.int .i64 c)) w' := fun w' h => ⟨S2, L, T, rfl, h, fun _ h => h, H1, ⟨fun b x hb _ => hsub b x hb, fun b hb => .inl hb⟩, rfl⟩
  have HO2 := Lib.hid hO2
  have k3 : (κ == 3) = false := by rcases hκ with rfl | rfl <;> rfl
  have k6 : (κ == 6) = false := by rcases hκ with rfl | rfl <;> rfl
  rw [hw1] at q0 q2 hpl
  clear hO H hO2 H1 m1 m2 hsub hlt hlow hsz hc hm hB1 hκ
  dsimp only [placeL, zP] at hpl
  go_enter Tryz.func68, Tryz.ntmps68
  go_wp2_with fail
  refine hpl.mono ?_
  rintro e w2 ⟨rfl, hb⟩
  rw [← hw1] at hb
  have hO3 := HO2.out.later hb
  have HD := Lib.hid (hD _ (hO3.alloc (.cells #[.pointer none, .string ⟨#[]⟩] 115)))
  clear q0 q2 hpl hw1 hb hO3 hD
  go_wp2_with fail
  go_ret
  exact HD.out
set_option maxHeartbeats 2000000 in
theorem turn_link {w0 w : World} {S : Blocks} {L : List Rw} {t : Nat} {T T' : Tr} (hO : Own ⟨w0, S⟩ w L) (H : Tree S (Pc L) t T) (hm : Mx w) {i : Int} {nda : Nd} {na : ByteArray}
    (p q : ByteArray) (hq : q.size ≤ maxLen) (v : Value) (hv : ∃ a n c, v = .slice a n c) {jb : Int} {ndb : Nd} {z : List UInt8} (hc : placeT T q.data.toList = (0, some (jb, ndb, z))) {c : Int}
    (hcall : ∀ S' w', Own ⟨w0, S'⟩ w' L → Tree S' (Pc L) t T → Calls Tryz.prog 90 #[.pointer (some ⟨t, 0, none⟩), .agg #[.pointer (some ⟨ndb.b, 0, none⟩), .string (toB z)], .int .i64 i] w' (DoL w0 S' L t T w' (fun T2 => T2 = T') (.int .i64 c))) :
    Calls Tryz.prog 68 #[.pointer (some ⟨t, 0, none⟩), .agg #[.pointer (some ⟨nda.b, 0, none⟩), .string na], .int .i64 i, .agg (opL 4 p q v).toArray] w (DoL w0 S L t T w (fun T2 => T2 = T') (.int .i64 c)) := by
  obtain ⟨va, vn, vc, rfl⟩ := hv
  obtain ⟨w1, S2, hw1, hsz, hO2, H1, m1, m2, hsub, hlt, hlow⟩ := two_boxes0 hO H (boxP nda na) (.cells #[.int .i64 4, .string p, .string q, .slice va vn vc] 38)
  have q0 : w1.cell? ⟨w.heap.size + 1, 0, none⟩ = some (.int .i64 4) := by rw [hO2.cellB m2]; rfl
  have q2 : w1.cell? ⟨w.heap.size + 1, 2, none⟩ = some (.string q) := by rw [hO2.cellB m2]; rfl
  have hB1 : Below w.heap.size w w1 := by rw [hw1]; exact ((Below.refl _ w).alloc (Nat.le_refl _) _).alloc (by simp) _
  have hpl := place_any (H1.at_.inWorld hO2) H.good q hq (hm.later hB1)
  rw [hc] at hpl
  have HO2 := Lib.hid hO2
  have hgen : ∀ w2, Own ⟨w0, S2⟩ w2 L → w.heap.size ≤ w2.heap.size → (w2.alloc (boxP ndb (toB z))).cell? ⟨w.heap.size, 0, none⟩ = some (.pointer (some ⟨nda.b, 0, none⟩)) ∧ (w2.alloc (boxP ndb (toB z))).cell? ⟨w.heap.size, 1, none⟩ = some (.string na) ∧ (w2.alloc (boxP ndb (toB z))).cell? ⟨w.heap.size + 1, 0, none⟩ = some (.int .i64 4) ∧
      Calls Tryz.prog 90 #[.pointer (some ⟨t, 0, none⟩), .agg #[.pointer (some ⟨ndb.b, 0, none⟩), .string (toB z)], .int .i64 i] (w2.alloc (boxP ndb (toB z))) (fun e w' => e = .returned (.int .i64 c) ∧ DoL w0 S L t T w (fun T2 => T2 = T') (.int .i64 c) (.returned (.int .i64 c)) w') := by
    intro w2 h2 h3
    have h4 := h2.alloc (boxP ndb (toB z))
    refine ⟨by rw [h4.cellB m1]; rfl, by rw [h4.cellB m1]; rfl, by rw [h4.cellB m2]; rfl, (hcall S2 _ h4 H1).mono fun e w' hd => ?_⟩
    have e1 : e = .returned (.int .i64 c) := hd.choose_spec.choose_spec.choose_spec.1
    subst e1
    exact ⟨rfl, hd.more hsub (by simp; omega) hlt⟩
  have hsz1 : w.heap.size ≤ w1.heap.size := by omega
  rw [hw1] at q0 q2 hpl
  clear hO H hO2 H1 m1 m2 hsub hlt hlow hsz hc hm hB1 hcall
  dsimp only [placeL] at hpl
  go_enter Tryz.func68, Tryz.ntmps68
  go_wp2_with fail
  refine hpl.mono ?_
  rintro e w2 ⟨rfl, hb⟩
  rw [← hw1] at hb
  have hO3 := HO2.out.later hb
  obtain ⟨r0, r1, r2, hcl⟩ := hgen w2 hO3 (Nat.le_trans hsz1 hb.size)
  clear q0 q2 hpl hw1 hb hO3 hgen hsz1 HO2
  go_wp2_with fail
  refine hcl.mono ?_
  rintro e w3 ⟨rfl, hD⟩
  have HD := Lib.hid hD
  clear hD hcl
  go_wp2_with fail
  go_ret
  exact HD.out
set_option maxHeartbeats 2000000 in
theorem turn_rename {w0 w : World} {S : Blocks} {L : List Rw} {t : Nat} {T T' : Tr} (hO : Own ⟨w0, S⟩ w L) (H : Tree S (Pc L) t T) (hm : Mx w) {i : Int} {nda : Nd} {na : ByteArray}
    (p q : ByteArray) (hq : q.size ≤ maxLen) (v : Value) (hv : ∃ a n c, v = .slice a n c) {jb : Int} {ndb : Nd} {z : List UInt8} (hc : placeT T q.data.toList = (0, some (jb, ndb, z))) {c : Int}
    (hcall : ∀ S' w', Own ⟨w0, S'⟩ w' L → Tree S' (Pc L) t T → Calls Tryz.prog 91 #[.pointer (some ⟨t, 0, none⟩), .agg #[.pointer (some ⟨nda.b, 0, none⟩), .string na], .agg #[.pointer (some ⟨ndb.b, 0, none⟩), .string (toB z)], .int .i64 i] w' (DoL w0 S' L t T w' (fun T2 => T2 = T') (.int .i64 c))) :
    Calls Tryz.prog 68 #[.pointer (some ⟨t, 0, none⟩), .agg #[.pointer (some ⟨nda.b, 0, none⟩), .string na], .int .i64 i, .agg (opL 5 p q v).toArray] w (DoL w0 S L t T w (fun T2 => T2 = T') (.int .i64 c)) := by
  obtain ⟨va, vn, vc, rfl⟩ := hv
  obtain ⟨w1, S2, hw1, hsz, hO2, H1, m1, m2, hsub, hlt, hlow⟩ := two_boxes0 hO H (boxP nda na) (.cells #[.int .i64 5, .string p, .string q, .slice va vn vc] 38)
  have q0 : w1.cell? ⟨w.heap.size + 1, 0, none⟩ = some (.int .i64 5) := by rw [hO2.cellB m2]; rfl
  have q2 : w1.cell? ⟨w.heap.size + 1, 2, none⟩ = some (.string q) := by rw [hO2.cellB m2]; rfl
  have hB1 : Below w.heap.size w w1 := by rw [hw1]; exact ((Below.refl _ w).alloc (Nat.le_refl _) _).alloc (by simp) _
  have hpl := place_any (H1.at_.inWorld hO2) H.good q hq (hm.later hB1)
  rw [hc] at hpl
  have HO2 := Lib.hid hO2
  have hgen : ∀ w2, Own ⟨w0, S2⟩ w2 L → w.heap.size ≤ w2.heap.size → (w2.alloc (boxP ndb (toB z))).cell? ⟨w.heap.size, 0, none⟩ = some (.pointer (some ⟨nda.b, 0, none⟩)) ∧ (w2.alloc (boxP ndb (toB z))).cell? ⟨w.heap.size, 1, none⟩ = some (.string na) ∧ (w2.alloc (boxP ndb (toB z))).cell? ⟨w.heap.size + 1, 0, none⟩ = some (.int .i64 5) ∧
      Calls Tryz.prog 91 #[.pointer (some ⟨t, 0, none⟩), .agg #[.pointer (some ⟨nda.b, 0, none⟩), .string na], .agg #[.pointer (some ⟨ndb.b, 0, none⟩), .string (toB z)], .int .i64 i] (w2.alloc (boxP ndb (toB z))) (fun e w' => e = .returned (.int .i64 c) ∧ DoL w0 S L t T w (fun T2 => T2 = T') (.int .i64 c) (.returned (.int .i64 c)) w') := by
    intro w2 h2 h3
    have h4 := h2.alloc (boxP ndb (toB z))
    refine ⟨by rw [h4.cellB m1]; rfl, by rw [h4.cellB m1]; rfl, by rw [h4.cellB m2]; rfl, (hcall S2 _ h4 H1).mono fun e w' hd => ?_⟩
    have e1 : e = .returned (.int .i64 c) := hd.choose_spec.choose_spec.choose_spec.1
    subst e1
    exact ⟨rfl, hd.more hsub (by simp; omega) hlt⟩
  have hsz1 : w.heap.size ≤ w1.heap.size := by omega
  rw [hw1] at q0 q2 hpl
  clear hO H hO2 H1 m1 m2 hsub hlt hlow hsz hc hm hB1 hcall
  dsimp only [placeL] at hpl
  go_enter Tryz.func68, Tryz.ntmps68
  go_wp2_with fail
  refine hpl.mono ?_
  rintro e w2 ⟨rfl, hb⟩
  rw [← hw1] at hb
  have hO3 := HO2.out.later hb
  obtain ⟨r0, r1, r2, hcl⟩ := hgen w2 hO3 (Nat.le_trans hsz1 hb.size)
  clear q0 q2 hpl hw1 hb hO3 hgen hsz1 HO2
  go_wp2_with fail
  refine hcl.mono ?_
  rintro e w3 ⟨rfl, hD⟩
  have HD := Lib.hid hD
  clear hD hcl
  go_wp2_with fail
  go_ret
  exact HD.out
end Go.Proofs.YtamkfadammlhbaaGreatDoor
