/- link. -/
import Derived.Test.YtamkfadammlhbaaGreatDoorTree11
namespace Go.Proofs.YtamkfadammlhbaaGreatDoor
open Go.RowKit
open Go.ChangeMaps (setBlock)
set_option linter.unusedVariables false
set_option linter.unusedSimpArgs false
set_option maxRecDepth 100000

theorem Done.toDoL {w0 w w1 w' : World} {S : Blocks} {L : List Rw} {t : Nat} {T T' : Tr} {r : Value} {e : Ending} (h : Done w0 S L (Pc L) t T T' w1 r e w') (hw : w.heap.size ≤ w1.heap.size) (hlt : ∀ b x, (b, x) ∈ S → b < w.heap.size) : DoL w0 S L t T w (fun T2 => T2 = T') r e w' := by
  obtain ⟨S', h1, h2, h3, h4⟩ := h
  exact ⟨S', L, T', h1, h2, fun _ h => h, h3, (Frame.refl S _ _).trans h4 hw hlt, rfl⟩
theorem DoL.same {w0 w w1 : World} {S : Blocks} {L : List Rw} {t : Nat} {T : Tr} (r : Value) (hO : Own ⟨w0, S⟩ w1 L) (H : Tree S (Pc L) t T) : DoL w0 S L t T w (fun T2 => T2 = T) r (.returned r) w1 := ⟨S, L, T, rfl, hO, fun _ h => h, H, Frame.refl _ _ _, rfl⟩
set_option maxHeartbeats 1000000 in
theorem link_twice {w0 w : World} {S : Blocks} {L : List Rw} {t : Nat} {T : Tr} (hO : Own ⟨w0, S⟩ w L) (H : Tree S (Pc L) t T) {j : Int} {nd : Nd} {k : Nat} (hj : look T.nodes j = some nd) (hk : nd.k = some k) (name : ByteArray) (i : Int) {x : Int} (hx : look nd.kids name = some x) :
    Calls Tryz.prog 90 #[.pointer (some ⟨t, 0, none⟩), .agg #[.pointer (some ⟨nd.b, 0, none⟩), .string name], .int .i64 i] w (DoL w0 S L t T w (fun T2 => T2 = T) (.int .i64 9)) := by
  have hO1 := (hO.alloc (.cells #[.pointer (some ⟨nd.b, 0, none⟩), .string name] 115)).drew
  obtain ⟨w1, hw1⟩ : ∃ w1, w1 = w.alloc (.cells #[.pointer (some ⟨nd.b, 0, none⟩), .string name] 115) := ⟨_, rfl⟩
  have p0 : w1.drew.cell? ⟨w.heap.size, 0, none⟩ = some (.pointer (some ⟨nd.b, 0, none⟩)) := by rw [hw1]; show (w.alloc _).cell? _ = _; rw [World.cell?_alloc_new]; rfl
  have p1 : w1.drew.cell? ⟨w.heap.size, 1, none⟩ = some (.string name) := by rw [hw1]; show (w.alloc _).cell? _ = _; rw [World.cell?_alloc_new]; rfl
  rw [← hw1] at hO1
  have hNW := (H.at_.inWorld hO1).node _ (look_mem hj)
  obtain ⟨c0, _, _⟩ := hNW.at0
  rw [hk] at c0
  have hl := hNW.look hk name
  rw [hx] at hl
  dsimp only [Option.getD_some, Option.isSome_some] at hl
  have HP := Lib.hid (show DoL w0 S L t T w (fun T2 => T2 = T) (.int .i64 9) (.returned (.int .i64 9)) w1.drew from DoL.same _ hO1 H)
  clear hO hO1 H hj hk hx hNW
  go_enter Tryz.func90, Tryz.ntmps90
  go_wp2_with fail
  rw [← hw1]
  clear hw1
  go_region
  all_goals go_wp2_with fail
  all_goals go_ret
  all_goals exact HP.out
set_option maxHeartbeats 1000000 in
theorem link_ok {w0 w : World} {S : Blocks} {L : List Rw} {t : Nat} {T : Tr} (hO : Own ⟨w0, S⟩ w L) (H : Tree S (Pc L) t T) {j : Int} {nd : Nd} {k : Nat} (hj : look T.nodes j = some nd) (hk : nd.k = some k) (name : ByteArray) (hx : look nd.kids name = none)
    {i : Int} {f : Nd} (hi : look T.nodes i = some f) (hf : f.k = none) (hp0 : 0 ≤ f.places) (hp : f.places ≤ 1000000000) :
    Calls Tryz.prog 90 #[.pointer (some ⟨t, 0, none⟩), .agg #[.pointer (some ⟨nd.b, 0, none⟩), .string name], .int .i64 i] w (DoL w0 S L t T w (fun T2 => T2 = putT T j nd name i f) (.int .i64 0)) := by
  have hO1 := (hO.alloc (.cells #[.pointer (some ⟨nd.b, 0, none⟩), .string name] 115)).drew
  obtain ⟨w1, hw1⟩ : ∃ w1, w1 = w.alloc (.cells #[.pointer (some ⟨nd.b, 0, none⟩), .string name] 115) := ⟨_, rfl⟩
  have p0 : w1.drew.cell? ⟨w.heap.size, 0, none⟩ = some (.pointer (some ⟨nd.b, 0, none⟩)) := by rw [hw1]; show (w.alloc _).cell? _ = _; rw [World.cell?_alloc_new]; rfl
  have p1 : w1.drew.cell? ⟨w.heap.size, 1, none⟩ = some (.string name) := by rw [hw1]; show (w.alloc _).cell? _ = _; rw [World.cell?_alloc_new]; rfl
  have hle : w.heap.size ≤ w1.drew.heap.size := by rw [hw1]; show _ ≤ (w.alloc _).heap.size; simp
  rw [← hw1] at hO1
  have hNW := (H.at_.inWorld hO1).node _ (look_mem hj)
  obtain ⟨c0, _, _⟩ := hNW.at0
  rw [hk] at c0
  have hl := hNW.look hk name
  rw [hx] at hl
  dsimp only [Option.getD_none, Option.isSome_none] at hl
  have hput : Calls Tryz.prog 88 #[.pointer (some ⟨t, 0, none⟩), .agg #[.pointer (some ⟨nd.b, 0, none⟩), .string name], .int .i64 i] w1.drew (fun e w' => e = .returned (.tuple #[]) ∧ DoL w0 S L t T w (fun T2 => T2 = putT T j nd name i f) (.int .i64 0) (.returned (.int .i64 0)) w') :=
    (put_any hO1 H hj hk name hi hf hp0 hp).mono fun e w' h => by
      obtain ⟨S', rfl, h2, h3, h4⟩ := h
      exact ⟨rfl, S', L, _, rfl, h2, fun _ h => h, h3, (Frame.refl S _ _).trans h4 hle (fun b x hb => (hO.atLt hb).2), rfl⟩
  clear hO hO1 H hj hk hx hNW hle hi hf
  go_enter Tryz.func90, Tryz.ntmps90
  go_wp2_with fail
  rw [← hw1]
  clear hw1
  go_region
  all_goals go_wp2_with (go_at_call 88; refine hput.mono ?_; rintro e w8 ⟨rfl, hD⟩)
  all_goals go_ret
  all_goals exact hD
end Go.Proofs.YtamkfadammlhbaaGreatDoor
