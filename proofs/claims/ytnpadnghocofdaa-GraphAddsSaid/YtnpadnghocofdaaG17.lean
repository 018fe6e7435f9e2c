/- The document's example of graph comes out true. -/
import Derived.Test.YtnpadnghocofdaaG16
namespace Go.Proofs.Ytnpadnghocofdaa
open Go.RowKit
open Go.ChangeMaps (setBlock)
set_option linter.unusedVariables false
set_option linter.unusedSimpArgs false
set_option maxRecDepth 100000

theorem new_ok {w : World} {v : Value} {us : List GU} (h : UArg w v us) (hlen : us.length ≤ 1000000) (hs : ∀ n ∈ namesU us, n.length ≤ 1000000) (hb : ∀ u ∈ us, Bnd u) (hE : errU us = 0) :
    Calls Try.prog 11 #[v] w fun e w' => ∃ g nb, e = .returned (.tuple #[.pointer (some ⟨g, 0, none⟩), .int .i64 0, .string nb]) ∧ GAt w' g us (ordU us) ∧ Below w.heap.size w w' :=
  (new_any h hlen hs hb).mono fun e w' hp => by
    obtain ⟨gv, n, rfl, hbl, _, hg, _⟩ := hp
    obtain ⟨g, rfl, hG⟩ := hg hE
    exact ⟨g, toB n, by rw [hE], hG, hbl⟩
theorem new_cycle {w : World} {v : Value} {us : List GU} (h : UArg w v us) (hlen : us.length ≤ 1000000) (hs : ∀ n ∈ namesU us, n.length ≤ 1000000) (hb : ∀ u ∈ us, Bnd u) (hE : errU us = 19) {n : Nm} (hn : (placeU us).2.head? = some n) :
    Calls Try.prog 11 #[v] w fun e w' => e = .returned (.tuple #[.pointer none, .int .i64 19, .string (toB n)]) ∧ Below w.heap.size w w' :=
  (new_any h hlen hs hb).mono fun e w' hp => by
    obtain ⟨gv, n', rfl, hbl, hbad, _, h19⟩ := hp
    have h1 := h19 hE
    rw [hn] at h1
    injection h1 with h1
    subst h1
    rw [hbad (by rw [hE]; decide), hE]
    exact ⟨rfl, hbl⟩
theorem bnd_small {u : GU} (h : u.fi.length ≤ 100 ∧ u.af.length ≤ 100 ∧ u.be.length ≤ 100 ∧ u.re.length ≤ 100 ∧ u.wa.length ≤ 100 ∧ u.pa.length ≤ 100) : Bnd u := ⟨by omega, by omega, by omega, by omega, by omega, by omega⟩
theorem argA (w : World) : UArg ((((w.alloc (.cells #[.string ⟨#[98]⟩] 9)).alloc (.cells #[.string ⟨#[98]⟩] 9)).alloc (.cells #[.string ⟨#[97]⟩] 9)).alloc (.cells #[.string ⟨#[97]⟩, .slice none 0 0, .slice none 0 0, .slice none 0 0, .slice (some ⟨w.heap.size, 0, none⟩) 1 1, .slice none 0 0, .slice none 0 0, .int .i64 0, .string ⟨#[98]⟩, .slice none 0 0, .slice none 0 0, .slice none 0 0, .slice none 0 0, .slice none 0 0, .slice none 0 0, .int .i64 0, .string ⟨#[99]⟩, .slice none 0 0, .slice none 0 0, .slice (some ⟨w.heap.size + 1, 0, none⟩) 1 1, .slice none 0 0, .slice none 0 0, .slice (some ⟨w.heap.size + 1 + 1, 0, none⟩) 1 1, .int .i64 0] 34)) (.slice (some ⟨w.heap.size + 1 + 1 + 1, 0, none⟩) 3 3) usA ∧ Below w.heap.size w ((((w.alloc (.cells #[.string ⟨#[98]⟩] 9)).alloc (.cells #[.string ⟨#[98]⟩] 9)).alloc (.cells #[.string ⟨#[97]⟩] 9)).alloc (.cells #[.string ⟨#[97]⟩, .slice none 0 0, .slice none 0 0, .slice none 0 0, .slice (some ⟨w.heap.size, 0, none⟩) 1 1, .slice none 0 0, .slice none 0 0, .int .i64 0, .string ⟨#[98]⟩, .slice none 0 0, .slice none 0 0, .slice none 0 0, .slice none 0 0, .slice none 0 0, .slice none 0 0, .int .i64 0, .string ⟨#[99]⟩, .slice none 0 0, .slice none 0 0, .slice (some ⟨w.heap.size + 1, 0, none⟩) 1 1, .slice none 0 0, .slice none 0 0, .slice (some ⟨w.heap.size + 1 + 1, 0, none⟩) 1 1, .int .i64 0] 34)) := by
  have O1 := (Own.start w).made_at 9 1 #[.string ⟨#[98]⟩] 1 w.heap.size rfl rfl (by unfold maxLen; decide)
  have O2 := O1.made_at 9 1 #[.string ⟨#[98]⟩] 1 (w.heap.size + 1) (by simp) rfl (by unfold maxLen; decide)
  have O3 := O2.made_at 9 1 #[.string ⟨#[97]⟩] 1 (w.heap.size + 1 + 1) (by simp) rfl (by unfold maxLen; decide)
  have O4 := O3.made_at 34 8 #[.string ⟨#[97]⟩, .slice none 0 0, .slice none 0 0, .slice none 0 0, .slice (some ⟨w.heap.size, 0, none⟩) 1 1, .slice none 0 0, .slice none 0 0, .int .i64 0, .string ⟨#[98]⟩, .slice none 0 0, .slice none 0 0, .slice none 0 0, .slice none 0 0, .slice none 0 0, .slice none 0 0, .int .i64 0, .string ⟨#[99]⟩, .slice none 0 0, .slice none 0 0, .slice (some ⟨w.heap.size + 1, 0, none⟩) 1 1, .slice none 0 0, .slice none 0 0, .slice (some ⟨w.heap.size + 1 + 1, 0, none⟩) 1 1, .int .i64 0] 3 (w.heap.size + 1 + 1 + 1) (by simp) rfl (by unfold maxLen; decide)
  refine ⟨uarg_of (xs := [⟨[97], .slice none 0 0, .slice none 0 0, .slice none 0 0, .slice (some ⟨w.heap.size, 0, none⟩) 1 1, .slice none 0 0, .slice none 0 0, 0⟩, ⟨[98], .slice none 0 0, .slice none 0 0, .slice none 0 0, .slice none 0 0, .slice none 0 0, .slice none 0 0, 0⟩, ⟨[99], .slice none 0 0, .slice none 0 0, .slice (some ⟨w.heap.size + 1, 0, none⟩) 1 1, .slice none 0 0, .slice none 0 0, .slice (some ⟨w.heap.size + 1 + 1, 0, none⟩) 1 1, 0⟩]) O4 ?_ (fun x hx => by
    simp only [List.mem_cons, List.not_mem_nil, or_false] at hx
    rcases hx with rfl | rfl | rfl <;> (intro v hv; simp only [List.mem_cons, List.not_mem_nil, or_false] at hv; rcases hv with rfl | rfl | rfl | rfl | rfl | rfl <;> first | exact .inl rfl | exact .inr ⟨_, _, _, rfl⟩)), O4.below⟩
  have n0 := sts_nil ((((w.alloc (.cells #[.string ⟨#[98]⟩] 9)).alloc (.cells #[.string ⟨#[98]⟩] 9)).alloc (.cells #[.string ⟨#[97]⟩] 9)).alloc (.cells #[.string ⟨#[97]⟩, .slice none 0 0, .slice none 0 0, .slice none 0 0, .slice (some ⟨w.heap.size, 0, none⟩) 1 1, .slice none 0 0, .slice none 0 0, .int .i64 0, .string ⟨#[98]⟩, .slice none 0 0, .slice none 0 0, .slice none 0 0, .slice none 0 0, .slice none 0 0, .slice none 0 0, .int .i64 0, .string ⟨#[99]⟩, .slice none 0 0, .slice none 0 0, .slice (some ⟨w.heap.size + 1, 0, none⟩) 1 1, .slice none 0 0, .slice none 0 0, .slice (some ⟨w.heap.size + 1 + 1, 0, none⟩) 1 1, .int .i64 0] 34))
  have s1 : Sts ((((w.alloc (.cells #[.string ⟨#[98]⟩] 9)).alloc (.cells #[.string ⟨#[98]⟩] 9)).alloc (.cells #[.string ⟨#[97]⟩] 9)).alloc (.cells #[.string ⟨#[97]⟩, .slice none 0 0, .slice none 0 0, .slice none 0 0, .slice (some ⟨w.heap.size, 0, none⟩) 1 1, .slice none 0 0, .slice none 0 0, .int .i64 0, .string ⟨#[98]⟩, .slice none 0 0, .slice none 0 0, .slice none 0 0, .slice none 0 0, .slice none 0 0, .slice none 0 0, .int .i64 0, .string ⟨#[99]⟩, .slice none 0 0, .slice none 0 0, .slice (some ⟨w.heap.size + 1, 0, none⟩) 1 1, .slice none 0 0, .slice none 0 0, .slice (some ⟨w.heap.size + 1 + 1, 0, none⟩) 1 1, .int .i64 0] 34)) (.slice (some ⟨w.heap.size, 0, none⟩) 1 1) [[98]] := sts_one O4 (List.mem_cons_of_mem _ (List.mem_cons_of_mem _ (List.mem_cons_of_mem _ (List.mem_cons_self ..))))
  have s2 : Sts ((((w.alloc (.cells #[.string ⟨#[98]⟩] 9)).alloc (.cells #[.string ⟨#[98]⟩] 9)).alloc (.cells #[.string ⟨#[97]⟩] 9)).alloc (.cells #[.string ⟨#[97]⟩, .slice none 0 0, .slice none 0 0, .slice none 0 0, .slice (some ⟨w.heap.size, 0, none⟩) 1 1, .slice none 0 0, .slice none 0 0, .int .i64 0, .string ⟨#[98]⟩, .slice none 0 0, .slice none 0 0, .slice none 0 0, .slice none 0 0, .slice none 0 0, .slice none 0 0, .int .i64 0, .string ⟨#[99]⟩, .slice none 0 0, .slice none 0 0, .slice (some ⟨w.heap.size + 1, 0, none⟩) 1 1, .slice none 0 0, .slice none 0 0, .slice (some ⟨w.heap.size + 1 + 1, 0, none⟩) 1 1, .int .i64 0] 34)) (.slice (some ⟨w.heap.size + 1, 0, none⟩) 1 1) [[98]] := sts_one O4 (List.mem_cons_of_mem _ (List.mem_cons_of_mem _ (List.mem_cons_self ..)))
  have s3 : Sts ((((w.alloc (.cells #[.string ⟨#[98]⟩] 9)).alloc (.cells #[.string ⟨#[98]⟩] 9)).alloc (.cells #[.string ⟨#[97]⟩] 9)).alloc (.cells #[.string ⟨#[97]⟩, .slice none 0 0, .slice none 0 0, .slice none 0 0, .slice (some ⟨w.heap.size, 0, none⟩) 1 1, .slice none 0 0, .slice none 0 0, .int .i64 0, .string ⟨#[98]⟩, .slice none 0 0, .slice none 0 0, .slice none 0 0, .slice none 0 0, .slice none 0 0, .slice none 0 0, .int .i64 0, .string ⟨#[99]⟩, .slice none 0 0, .slice none 0 0, .slice (some ⟨w.heap.size + 1, 0, none⟩) 1 1, .slice none 0 0, .slice none 0 0, .slice (some ⟨w.heap.size + 1 + 1, 0, none⟩) 1 1, .int .i64 0] 34)) (.slice (some ⟨w.heap.size + 1 + 1, 0, none⟩) 1 1) [[97]] := sts_one O4 (List.mem_cons_of_mem _ (List.mem_cons_self ..))
  exact .cons ⟨rfl, rfl, n0, n0, n0, s1, n0, n0⟩ (.cons ⟨rfl, rfl, n0, n0, n0, n0, n0, n0⟩ (.cons ⟨rfl, rfl, n0, n0, s2, n0, n0, s3⟩ .nil))
theorem argB (w : World) : UArg (((w.alloc (.cells #[.string ⟨#[98]⟩] 9)).alloc (.cells #[.string ⟨#[97]⟩] 9)).alloc (.cells #[.string ⟨#[97]⟩, .slice none 0 0, .slice (some ⟨w.heap.size, 0, none⟩) 1 1, .slice none 0 0, .slice none 0 0, .slice none 0 0, .slice none 0 0, .int .i64 0, .string ⟨#[98]⟩, .slice none 0 0, .slice (some ⟨w.heap.size + 1, 0, none⟩) 1 1, .slice none 0 0, .slice none 0 0, .slice none 0 0, .slice none 0 0, .int .i64 0] 34)) (.slice (some ⟨w.heap.size + 1 + 1, 0, none⟩) 2 2) usB ∧ Below w.heap.size w (((w.alloc (.cells #[.string ⟨#[98]⟩] 9)).alloc (.cells #[.string ⟨#[97]⟩] 9)).alloc (.cells #[.string ⟨#[97]⟩, .slice none 0 0, .slice (some ⟨w.heap.size, 0, none⟩) 1 1, .slice none 0 0, .slice none 0 0, .slice none 0 0, .slice none 0 0, .int .i64 0, .string ⟨#[98]⟩, .slice none 0 0, .slice (some ⟨w.heap.size + 1, 0, none⟩) 1 1, .slice none 0 0, .slice none 0 0, .slice none 0 0, .slice none 0 0, .int .i64 0] 34)) := by
  have O1 := (Own.start w).made_at 9 1 #[.string ⟨#[98]⟩] 1 w.heap.size rfl rfl (by unfold maxLen; decide)
  have O2 := O1.made_at 9 1 #[.string ⟨#[97]⟩] 1 (w.heap.size + 1) (by simp) rfl (by unfold maxLen; decide)
  have O4 := O2.made_at 34 8 #[.string ⟨#[97]⟩, .slice none 0 0, .slice (some ⟨w.heap.size, 0, none⟩) 1 1, .slice none 0 0, .slice none 0 0, .slice none 0 0, .slice none 0 0, .int .i64 0, .string ⟨#[98]⟩, .slice none 0 0, .slice (some ⟨w.heap.size + 1, 0, none⟩) 1 1, .slice none 0 0, .slice none 0 0, .slice none 0 0, .slice none 0 0, .int .i64 0] 2 (w.heap.size + 1 + 1) (by simp) rfl (by unfold maxLen; decide)
  refine ⟨uarg_of (xs := [⟨[97], .slice none 0 0, .slice (some ⟨w.heap.size, 0, none⟩) 1 1, .slice none 0 0, .slice none 0 0, .slice none 0 0, .slice none 0 0, 0⟩, ⟨[98], .slice none 0 0, .slice (some ⟨w.heap.size + 1, 0, none⟩) 1 1, .slice none 0 0, .slice none 0 0, .slice none 0 0, .slice none 0 0, 0⟩]) O4 ?_ (fun x hx => by
    simp only [List.mem_cons, List.not_mem_nil, or_false] at hx
    rcases hx with rfl | rfl <;> (intro v hv; simp only [List.mem_cons, List.not_mem_nil, or_false] at hv; rcases hv with rfl | rfl | rfl | rfl | rfl | rfl <;> first | exact .inl rfl | exact .inr ⟨_, _, _, rfl⟩)), O4.below⟩
  have n0 := sts_nil (((w.alloc (.cells #[.string ⟨#[98]⟩] 9)).alloc (.cells #[.string ⟨#[97]⟩] 9)).alloc (.cells #[.string ⟨#[97]⟩, .slice none 0 0, .slice (some ⟨w.heap.size, 0, none⟩) 1 1, .slice none 0 0, .slice none 0 0, .slice none 0 0, .slice none 0 0, .int .i64 0, .string ⟨#[98]⟩, .slice none 0 0, .slice (some ⟨w.heap.size + 1, 0, none⟩) 1 1, .slice none 0 0, .slice none 0 0, .slice none 0 0, .slice none 0 0, .int .i64 0] 34))
  have s1 : Sts (((w.alloc (.cells #[.string ⟨#[98]⟩] 9)).alloc (.cells #[.string ⟨#[97]⟩] 9)).alloc (.cells #[.string ⟨#[97]⟩, .slice none 0 0, .slice (some ⟨w.heap.size, 0, none⟩) 1 1, .slice none 0 0, .slice none 0 0, .slice none 0 0, .slice none 0 0, .int .i64 0, .string ⟨#[98]⟩, .slice none 0 0, .slice (some ⟨w.heap.size + 1, 0, none⟩) 1 1, .slice none 0 0, .slice none 0 0, .slice none 0 0, .slice none 0 0, .int .i64 0] 34)) (.slice (some ⟨w.heap.size, 0, none⟩) 1 1) [[98]] := sts_one O4 (List.mem_cons_of_mem _ (List.mem_cons_of_mem _ (List.mem_cons_self ..)))
  have s2 : Sts (((w.alloc (.cells #[.string ⟨#[98]⟩] 9)).alloc (.cells #[.string ⟨#[97]⟩] 9)).alloc (.cells #[.string ⟨#[97]⟩, .slice none 0 0, .slice (some ⟨w.heap.size, 0, none⟩) 1 1, .slice none 0 0, .slice none 0 0, .slice none 0 0, .slice none 0 0, .int .i64 0, .string ⟨#[98]⟩, .slice none 0 0, .slice (some ⟨w.heap.size + 1, 0, none⟩) 1 1, .slice none 0 0, .slice none 0 0, .slice none 0 0, .slice none 0 0, .int .i64 0] 34)) (.slice (some ⟨w.heap.size + 1, 0, none⟩) 1 1) [[97]] := sts_one O4 (List.mem_cons_of_mem _ (List.mem_cons_self ..))
  exact .cons ⟨rfl, rfl, n0, s1, n0, n0, n0, n0⟩ (.cons ⟨rfl, rfl, n0, s2, n0, n0, n0, n0⟩ .nil)
theorem newA (w : World) : Calls Try.prog 11 #[.slice (some ⟨w.heap.size + 1 + 1 + 1, 0, none⟩) 3 3] ((((w.alloc (.cells #[.string ⟨#[98]⟩] 9)).alloc (.cells #[.string ⟨#[98]⟩] 9)).alloc (.cells #[.string ⟨#[97]⟩] 9)).alloc (.cells #[.string ⟨#[97]⟩, .slice none 0 0, .slice none 0 0, .slice none 0 0, .slice (some ⟨w.heap.size, 0, none⟩) 1 1, .slice none 0 0, .slice none 0 0, .int .i64 0, .string ⟨#[98]⟩, .slice none 0 0, .slice none 0 0, .slice none 0 0, .slice none 0 0, .slice none 0 0, .slice none 0 0, .int .i64 0, .string ⟨#[99]⟩, .slice none 0 0, .slice none 0 0, .slice (some ⟨w.heap.size + 1, 0, none⟩) 1 1, .slice none 0 0, .slice none 0 0, .slice (some ⟨w.heap.size + 1 + 1, 0, none⟩) 1 1, .int .i64 0] 34)) fun e w' => ∃ g nb, e = .returned (.tuple #[.pointer (some ⟨g, 0, none⟩), .int .i64 0, .string nb]) ∧ GAt w' g usA [[99], [98], [97]] ∧ Below w.heap.size w w' := by
  obtain ⟨h1, h2⟩ := argA w
  refine (new_ok h1 (by decide) (by decide) (fun u hu => bnd_small (by
    simp only [usA, List.mem_cons, List.not_mem_nil, or_false] at hu
    rcases hu with rfl | rfl | rfl <;> decide)) errA).mono ?_
  rintro e w' ⟨g, nb, rfl, hG, hb⟩
  rw [ordA] at hG
  exact ⟨g, nb, rfl, hG, h2.trans (hb.mono h2.size)⟩
theorem newB (w : World) : Calls Try.prog 11 #[.slice (some ⟨w.heap.size + 1 + 1, 0, none⟩) 2 2] (((w.alloc (.cells #[.string ⟨#[98]⟩] 9)).alloc (.cells #[.string ⟨#[97]⟩] 9)).alloc (.cells #[.string ⟨#[97]⟩, .slice none 0 0, .slice (some ⟨w.heap.size, 0, none⟩) 1 1, .slice none 0 0, .slice none 0 0, .slice none 0 0, .slice none 0 0, .int .i64 0, .string ⟨#[98]⟩, .slice none 0 0, .slice (some ⟨w.heap.size + 1, 0, none⟩) 1 1, .slice none 0 0, .slice none 0 0, .slice none 0 0, .slice none 0 0, .int .i64 0] 34)) fun e w' => e = .returned (.tuple #[.pointer none, .int .i64 19, .string ⟨#[97]⟩]) ∧ Below w.heap.size w w' := by
  obtain ⟨h1, h2⟩ := argB w
  refine (new_cycle h1 (by decide) (by decide) (fun u hu => bnd_small (by
    simp only [usB, List.mem_cons, List.not_mem_nil, or_false] at hu
    rcases hu with rfl | rfl <;> decide)) errB headB).mono ?_
  rintro e w' ⟨rfl, hb⟩
  exact ⟨rfl, h2.trans (hb.mono h2.size)⟩
set_option maxHeartbeats 8000000 in
theorem alive14_any (w : World) : Calls Try.prog 9 #[] w fun e w' => e = .returned (.bool true) ∧ Below w.heap.size w w' := by
  go_enter Try.func9, Try.ntmps9
  go_upto_region 2 with (go_at_call 11; refine (newA w).mono ?_; rintro e w1 ⟨g, nb, rfl, hG, hb1⟩; have HG := Lib.hid hG; have HB1 := Lib.hid hb1; clear hG hb1)
  go_upto_region 5 with (go_at_call 11; refine (newB w1).mono ?_; rintro e w2 ⟨rfl, hb2⟩; have HB2 := Lib.hid hb2; clear hb2)
  have hG2 := HG.out.later HB2.out
  have O3 := (Own.start w2).made_at 9 1 #[.string ⟨#[97]⟩, .string ⟨#[98]⟩, .string ⟨#[99]⟩, .string ⟨#[120]⟩] 4 w2.heap.size rfl rfl (by unfold maxLen; decide)
  have s3 : Sts _ (.slice (some ⟨w2.heap.size, 0, none⟩) 4 4) [[97], [98], [99], [120]] := O3.stsMem (ls := [[97], [98], [99], [120]]) (List.mem_cons_self ..)
  have hb20 : Below w2.heap.size w2 (w2.alloc (.cells #[.string ⟨#[97]⟩, .string ⟨#[98]⟩, .string ⟨#[99]⟩, .string ⟨#[120]⟩] 9)) := O3.below
  have ko : Calls Try.prog 12 #[.pointer (some ⟨g, 0, none⟩), .slice (some ⟨w2.heap.size, 0, none⟩) 4 4] (w2.alloc (.cells #[.string ⟨#[97]⟩, .string ⟨#[98]⟩, .string ⟨#[99]⟩, .string ⟨#[120]⟩] 9)) fun e w3 => ∃ go co, e = .returned (.slice (some ⟨go, 0, none⟩) 3 co) ∧ Below w2.heap.size w2 w3 ∧ Hid (∀ w4, Below w3.heap.size w3 w4 → w4.cell? ⟨go, 0, none⟩ = some (.string ⟨#[99]⟩) ∧ w4.cell? ⟨go, 1, none⟩ = some (.string ⟨#[98]⟩) ∧ w4.cell? ⟨go, 2, none⟩ = some (.string ⟨#[97]⟩)) :=
    ((hG2.later hb20).order s3).mono fun e w3 h => by
      obtain ⟨v', rfl, hO⟩ := h
      rw [show pick [[99], [98], [97]] [[97], [98], [99], [120]] = ([[99], [98], [97]] : List Nm) from by decide] at hO
      obtain ⟨go, co, hv, _⟩ := Own.form (h := hO) (by decide)
      subst hv
      refine ⟨go, co, rfl, hb20.trans (hO.below.mono hb20.size), fun w4 hb => ?_⟩
      have q : ∀ k (hk : k < 3), w4.cell? ⟨go, k, none⟩ = w3.cell? ⟨go, k, none⟩ := fun k hk => hb.cell (p := ⟨go, k, none⟩) (hO.lt (List.mem_cons_self ..) (k := go) rfl).2
      rw [q 0 (by decide), q 1 (by decide), q 2 (by decide)]
      exact ⟨Own.str hO 0 (by decide), Own.str hO 1 (by decide), Own.str hO 2 (by decide)⟩
  have KL := Lib.hid (fun w4 (hb : Below w2.heap.size w2 w4) => (by
    have O5 := (Own.start w4).made_at 9 1 #[.string ⟨#[98]⟩] 1 w4.heap.size rfl rfl (by unfold maxLen; decide)
    refine (((hG2.later hb).later O5.below).lean (O5.stsMem (v := .slice (some ⟨w4.heap.size, 0, none⟩) 1 1) (ls := [[98]]) (List.mem_cons_self ..))).mono ?_
    rintro e w5 ⟨v', l, rfl, hO, hJ⟩
    obtain ⟨a, c, e9, _, _⟩ := Own.sized (h := hO)
    subst e9
    rw [leanA hJ]
    exact ⟨a, c, rfl, hb.trans ((O5.below.trans (hO.below.mono O5.below.size)).mono hb.size), O5.below.trans (hO.below.mono O5.below.size)⟩ : Calls Try.prog 14 #[.pointer (some ⟨g, 0, none⟩), .slice (some ⟨w4.heap.size, 0, none⟩) 1 1] (w4.alloc (.cells #[.string ⟨#[98]⟩] 9)) fun e w' => ∃ a c, e = .returned (.slice a 3 c) ∧ Below w2.heap.size w2 w' ∧ Below w4.heap.size w4 w'))
  have KP := Lib.hid (fun w4 (hb : Below w2.heap.size w2 w4) => (by
    have O5 := (Own.start w4).made_at 9 1 #[.string ⟨#[97]⟩] 1 w4.heap.size rfl rfl (by unfold maxLen; decide)
    refine (((hG2.later hb).later O5.below).pull (O5.stsMem (v := .slice (some ⟨w4.heap.size, 0, none⟩) 1 1) (ls := [[97]]) (List.mem_cons_self ..))).mono ?_
    rintro e w5 ⟨v', l, rfl, hO, hJ⟩
    obtain ⟨a, c, e9, _, _⟩ := Own.sized (h := hO)
    subst e9
    rw [pullA hJ]
    exact ⟨a, c, rfl, hb.trans ((O5.below.trans (hO.below.mono O5.below.size)).mono hb.size)⟩ : Calls Try.prog 15 #[.pointer (some ⟨g, 0, none⟩), .slice (some ⟨w4.heap.size, 0, none⟩) 1 1] (w4.alloc (.cells #[.string ⟨#[97]⟩] 9)) fun e w' => ∃ a c, e = .returned (.slice a 2 c) ∧ Below w2.heap.size w2 w'))
  have KB := Lib.hid (fun w4 (hb : Below w2.heap.size w2 w4) => (by
    refine ((hG2.later hb).behind [97]).mono ?_
    rintro e w5 ⟨v', rfl, hO⟩
    obtain ⟨a, c, e9, _, _⟩ := Own.sized (h := hO)
    subst e9
    rw [behA]
    exact ⟨a, c, rfl, hb.trans (hO.below.mono hb.size)⟩ : Calls Try.prog 29 #[.pointer (some ⟨g, 0, none⟩), .string ⟨#[97]⟩] w4 fun e w' => ∃ a c, e = .returned (.slice a 1 c) ∧ Below w2.heap.size w2 w'))
  have KN := Lib.hid (fun w4 (hb : Below w2.heap.size w2 w4) => (by
    refine (hG2.later hb).names.mono ?_
    rintro e w5 ⟨v', rfl, hO⟩
    obtain ⟨a, c, e9, _, _⟩ := Own.sized (h := hO)
    subst e9
    rw [namesA]
    exact ⟨a, c, rfl, hb.trans (hO.below.mono hb.size)⟩ : Calls Try.prog 13 #[.pointer (some ⟨g, 0, none⟩)] w4 fun e w' => ∃ a c, e = .returned (.slice a 3 c) ∧ Below w2.heap.size w2 w'))
  clear O3 s3 hb20 hG2
  go_upto_region 6 with (first
    | (go_at_call 12; refine ko.mono ?_; rintro e w3 ⟨go, co, rfl, hb3, hc3⟩; have HB3 := Lib.hid hb3; clear hb3)
    | (go_at_call 14; refine (KL.out w3 HB3.out).mono ?_; rintro e w4 ⟨al, cl, rfl, hb4, hb34⟩; have HB4 := Lib.hid hb4; obtain ⟨c0, c1, c2⟩ := hc3.out w4 hb34; clear hb4 hb34))
  go_wp2_with (first
    | (go_at_call 13; refine (KN.out w6 HB6.out).mono ?_; rintro e w7 ⟨an, cn, rfl, hb7⟩; have HB7 := Lib.hid hb7; clear hb7)
    | (go_at_call 29; refine (KB.out w5 HB5.out).mono ?_; rintro e w6 ⟨ab, cb, rfl, hb6⟩; have HB6 := Lib.hid hb6; clear hb6)
    | (go_at_call 15; refine (KP.out w4 HB4.out).mono ?_; rintro e w5 ⟨ap, cp, rfl, hb5⟩; have HB5 := Lib.hid hb5; clear hb5))
  go_ret
  exact ⟨rfl, (HB1.out.trans (HB2.out.mono HB1.out.size)).trans (HB7.out.mono (HB1.out.trans (HB2.out.mono HB1.out.size)).size)⟩
end Go.Proofs.Ytnpadnghocofdaa
