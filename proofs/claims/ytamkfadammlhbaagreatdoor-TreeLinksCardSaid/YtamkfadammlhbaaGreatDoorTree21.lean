/- Read. -/
import Derived.Test.YtamkfadammlhbaaGreatDoorTree20
namespace Go.Proofs.YtamkfadammlhbaaGreatDoor
open Go.RowKit
open Go.ChangeMaps (setBlock)
set_option linter.unusedVariables false
set_option linter.unusedSimpArgs false
set_option maxRecDepth 100000

theorem read_file {w0 w : World} {S : Blocks} {L : List Rw} {t : Nat} {T : Tr} (hO : Own ⟨w0, S⟩ w L) (H : Tree S (Pc L) t T) (s : ByteArray) (hs : s.size ≤ maxLen) (hm : Mx w) {n : Nd} (hn : standT T s.data.toList = some n) (hk : n.k = none) (hl : n.data.length ≤ 140737488355328) :
    Calls Tryz.prog 26 #[.pointer (some ⟨t, 0, none⟩), .string s] w fun e w' => ∃ v, e = .returned (.tuple #[v, .int .i64 0]) ∧ Own w w' [rowU v n.data] := by
  have hst := stands_any (H.at_.inWorld hO) H.good s hs hm
  rw [hn] at hst
  obtain ⟨i, hi⟩ := stand_mem hn
  have hgen : ∀ w2, Below w.heap.size w w2 → Calls Tryz.prog 58 #[.pointer (some ⟨n.b, 0, none⟩)] w2 (fun e w' => e = .returned (.bool false) ∧ w2 = w') ∧ w2.cell? ⟨n.b, 1, none⟩ = some n.dv ∧ By w2 n.dv n.data := by
    intro w2 hb
    have h1 := H.at_.inWorld (hO.later hb)
    have hd := dir_any (h1.node _ hi)
    rw [show n.k.isSome = false by rw [hk]; rfl] at hd
    exact ⟨hd, (h1.node _ hi).at0.2.1, (H.at_.node _ hi).dat.by (hO.later hb)⟩
  obtain ⟨a, c, hf⟩ := (H.at_.node _ hi).form
  have HW := Lib.hid (Own.start w)
  dsimp only at hf
  dsimp only [ptrOf] at hst
  rw [hf] at hgen
  have hcl : ∀ w2, Below w.heap.size w w2 → Calls Tryz.prog 59 #[.slice a n.data.length c] w2 (fun e w' => ∃ v, e = .returned v ∧ Own w w' [rowU v n.data]) := fun w2 hb => (clone_any _ _ w2 (hgen w2 hb).2.2 hl).mono fun e w' h => by
    obtain ⟨v, h1, h2⟩ := h
    have := (Own.of_below hb).join h2
    exact ⟨v, h1, by simpa using this⟩
  clear hO H hn hi hk hl hf
  generalize hlen : n.data.length = m at *
  go_enter Tryz.func26, Tryz.ntmps26
  go_wp2_with fail
  refine hst.mono ?_
  rintro e w2 ⟨rfl, hb⟩
  obtain ⟨hd, h1, _⟩ := hgen w2 hb
  have hcl2 := hcl w2 hb
  clear hgen hcl hst
  go_wp2_with (first
    | (go_at_call 58; refine hd.mono ?_; rintro e w' ⟨rfl, rfl⟩)
    | (go_at_call 59; refine hcl2.mono ?_; rintro e w3 ⟨v, rfl, hO3⟩; obtain ⟨a3, c3, rfl, _, _⟩ := Own.sized (h := (show Own w w3 (⟨5, 1, v, n.data.length, bs n.data⟩ :: []) from hO3)); have HO3 := Lib.hid hO3; clear hO3))
  go_ret2
  exact ⟨_, rfl, by subst hlen; exact HO3.out⟩
theorem read_no {w : World} {D : Value → List Int → Prop} {t : Nat} {T : Tr} (H : TreeIn (inW w) D t T) (G : Good T) (s : ByteArray) (hs : s.size ≤ maxLen) (hm : Mx w) (hn : standT T s.data.toList = none) :
    Calls Tryz.prog 26 #[.pointer (some ⟨t, 0, none⟩), .string s] w fun e w' => e = .returned (.tuple #[.slice none 0 0, .int .i64 8]) ∧ Below w.heap.size w w' := by
  have hst := stands_any H G s hs hm
  rw [hn] at hst
  dsimp only [ptrOf] at hst
  clear H G hn
  go_enter Tryz.func26, Tryz.ntmps26
  go_wp2_with fail
  refine hst.mono ?_
  rintro e w2 ⟨rfl, hb⟩
  go_wp2_with fail
  go_ret2
  exact ⟨rfl, hb⟩
theorem read_dir {w : World} {D : Value → List Int → Prop} {t : Nat} {T : Tr} (H : TreeIn (inW w) D t T) (G : Good T) (s : ByteArray) (hs : s.size ≤ maxLen) (hm : Mx w) {n : Nd} (hn : standT T s.data.toList = some n) (hk : n.k.isSome = true) :
    Calls Tryz.prog 26 #[.pointer (some ⟨t, 0, none⟩), .string s] w fun e w' => e = .returned (.tuple #[.slice none 0 0, .int .i64 10]) ∧ Below w.heap.size w w' := by
  have hst := stands_any H G s hs hm
  rw [hn] at hst
  dsimp only [ptrOf] at hst
  obtain ⟨i, hi⟩ := stand_mem hn
  have hgen : ∀ w2, Below w.heap.size w w2 → Calls Tryz.prog 58 #[.pointer (some ⟨n.b, 0, none⟩)] w2 (fun e w' => e = .returned (.bool true) ∧ w2 = w') := by
    intro w2 hb
    have hd := dir_any ((H.later hb).node _ hi)
    rwa [hk] at hd
  clear H G hn hi hk
  go_enter Tryz.func26, Tryz.ntmps26
  go_wp2_with fail
  refine hst.mono ?_
  rintro e w2 ⟨rfl, hb⟩
  have hd := hgen w2 hb
  clear hgen hst
  go_wp2_with (go_at_call 58; refine hd.mono ?_; rintro e w' ⟨rfl, rfl⟩)
  go_ret2
  exact ⟨rfl, hb⟩
end Go.Proofs.YtamkfadammlhbaaGreatDoor
