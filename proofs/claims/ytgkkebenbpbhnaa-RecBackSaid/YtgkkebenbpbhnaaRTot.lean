/- Pieces that came in: where they lie, how many bytes they are; and what 'size' answers. -/
import Derived.Test.YtgkkebenbpbhnaaRApart
namespace Go.Proofs.Ytgkkebenbpbhnaa
open Go.RowKit
set_option linter.unusedVariables false
set_option linter.unusedSimpArgs false

/-- The cells of a piece. -/
def pcCells (k N : Int) (bv : Value) (la : Option Addr) (ln lc : Nat) : List Value := [.int .i64 k, .int .u32 N, bv, .slice la ln lc]
/-- n pieces lie at a, at most f deep; all of it is t. -/
def Tot : Nat → World → Option Addr → Nat → Nat → Prop
  | 0, _, _, n, t => n = 0 ∧ t = 0
  | f + 1, w, a, n, t => ∃ ts : List Nat, ts.length = n ∧ t = ts.sum ∧ n ≤ 9223372036854775807 ∧ ∀ i (h : i < ts.length), ∃ (b off : Nat) (k N : Int) (bv : Value) (la : Option Addr) (ln lc : Nat) (zs : List Int) (u : Nat),
      a = some ⟨b, off, none⟩ ∧ w.rangeAt b (off + i * 4) (pcCells k N bv la ln lc) ∧ 0 ≤ N ∧ N < 4294967296 ∧ By w bv zs ∧ zs.length ≤ 140737488351232 ∧ Tot f w la ln u ∧ ts[i] = 1 + zs.length + u
theorem rangeAt_later {w w' : World} {b o : Nat} {cs : List Value} (h : w.rangeAt b o cs) (hb : Below w.heap.size w w') : w'.rangeAt b o cs :=
  fun j v hj => (hb.cell (p := ⟨b, o + j, none⟩) (World.block_lt_of_cell? w _ (h j v hj))).trans (h j v hj)
theorem Tot.later : ∀ (f : Nat) {w w' : World} {a : Option Addr} {n t : Nat}, Tot f w a n t → Below w.heap.size w w' → Tot f w' a n t
  | 0, _, _, _, _, _, h, _ => h
  | f + 1, w, w', a, n, t, h, hb => by
    obtain ⟨ts, h1, h2, h0, h3⟩ := h
    refine ⟨ts, h1, h2, h0, fun i hi => ?_⟩
    obtain ⟨b, off, k, N, bv, la, ln, lc, zs, u, e1, e2, e3, e4, e5, e6, e7, e8⟩ := h3 i hi
    exact ⟨b, off, k, N, bv, la, ln, lc, zs, u, e1, rangeAt_later e2 hb, e3, e4, e5.later hb, e6, Tot.later f e7 hb, e8⟩
theorem zero_piece (w : World) : Sem.run Try.prog (zeroValue 29) w = .ok (.agg #[.int .i64 0, .int .u32 0, .slice none 0 0, .slice none 0 0]) w := by kernel_rfl
theorem info_piece (k N : Int) (bv : Value) (la : Option Addr) (ln lc : Nat) : (Try.prog.info? 29).map (·.size) = some (pcCells k N bv la ln lc).length := by
  show _ = some 4
  kernel_rfl
theorem By.form {w : World} {v : Value} {zs : List Int} (h : By w v zs) : ∃ a c, v = .slice a zs.length c := by
  obtain ⟨_, _, a, c, hv, _⟩ := h
  exact ⟨a, c, hv⟩
theorem pc_one (k N : Int) (ba : Option Addr) (bl bc : Nat) (la : Option Addr) (ln lc : Nat) : ∀ v ∈ pcCells k N (.slice ba bl bc) la ln lc, v.oneCell' = true := by
  intro v hv
  simp only [pcCells, List.mem_cons, List.not_mem_nil, or_false] at hv
  rcases hv with rfl | rfl | rfl | rfl <;> rfl
theorem sum_take_succ (ts : List Nat) (i : Nat) (h : i < ts.length) : (ts.take (i + 1)).sum = (ts.take i).sum + ts[i] := by
  rw [List.take_succ_eq_append_getElem h, List.sum_append]; simp
theorem sum_take_le (ts : List Nat) (i : Nat) : (ts.take i).sum ≤ ts.sum := by
  have : ts.sum = (ts.take i).sum + (ts.drop i).sum := by rw [← List.sum_append, List.take_append_drop]
  omega

/-- What 'size' answers: all of it, if that is within the bound; else more than the bound. -/
def SizeAt (w : World) (most t : Nat) (e : Ending) (w' : World) : Prop := ∃ r : Nat, e = .returned (.int .i64 (r : Int)) ∧ (r ≤ most → r = t) ∧ r ≤ most + 140737488351233 ∧ Own w w' []

set_option maxHeartbeats 3200000 in
set_option maxRecDepth 100000 in
theorem size_any (f : Nat) : ∀ (w : World) (a : Option Addr) (n c t most : Nat), Tot f w a n t → most ≤ 1000 →
    Calls Try.prog 7 #[.slice a n c, .int .i64 (most : Int)] w (SizeAt w most t) := by
  induction f with
  | zero =>
    intro w a n c t most h hm
    obtain ⟨rfl, rfl⟩ := h
    go_enter Try.func7, Try.ntmps7
    go_wp2_with fail
    refine wp_loop_rounds 1 ?_
    rw [rounds_succ]
    go_wp2_with fail
    go_ret
    exact ⟨0, rfl, fun _ => rfl, by omega, Own.start w⟩
  | succ f ih =>
    intro w a n c t most h hm
    obtain ⟨ts, hl, ht, hn63, hts⟩ := h
    have HT := Lib.hid hts
    have HI := Lib.hid ih
    have Hl := Lib.hid hl
    have Ht := Lib.hid ht
    clear hts ih ht hl
    go_enter Try.func7, Try.ntmps7
    go_wp2_with fail
    go_loopw [5, 10] (fun s i wr => ∃ k : Nat, k ≤ n ∧ i = .int .i64 k ∧ s = .int .i64 ((ts.take k).sum : Int) ∧ (ts.take k).sum ≤ most ∧ Own w wr []) (fun _ i _ => n - (intOf i).toNat)
    case atStart => exact ⟨0, Nat.zero_le _, rfl, by simp, by simp, Own.start w⟩
    case round =>
      obtain ⟨k, hk, rfl, rfl, hs, hO⟩ := hrel
      by_cases hlt : k < n
      · have hkt : k < ts.length := by rw [Hl.out]; exact hlt
        obtain ⟨b, off, kd, N, bv, la, ln, lc, zs, u, rfl, hr, hN0, hN1, hBy, hzl, hTot, hti⟩ := HT.out k hkt
        have hsum := sum_take_succ ts k hkt
        rw [hti] at hsum
        obtain ⟨ba, bc, rfl⟩ := hBy.form
        have hr' := rangeAt_later hr hO.below
        have hone := pc_one kd N ba zs.length bc la ln lc
        have hiw := info_piece kd N (.slice ba zs.length bc) la ln lc
        have hz := zero_piece
        have HTot := Lib.hid hTot
        have Hsum := Lib.hid hsum
        have HO := Lib.hid hO
        clear hr hBy hTot hti hsum hO hkt
        generalize (ts.take k).sum = s at *
        go_wp2_with (first
          | (refine wpList_load_mid rfl 29 (.tmp 12) rfl b (off + k * 4) rfl (pcCells kd N (.slice ba zs.length bc) la ln lc) _ hr' Try.underlying29 rfl hiw ?_)
          | (refine wpList_store_new rfl 29 (.tmp 7) (.tmp 13) rfl HO.out (pcCells kd N (.slice ba zs.length bc) la ln lc) wr.heap.size rfl rfl rfl rfl hiw hone ?_))
        intro w2 hO2 _
        have d2 : w2.cell? ⟨wr.heap.size, 2, none⟩ = some (.slice ba zs.length bc) := Own.cell (h := hO2) 2 (by simp [pcCells])
        have d3 : w2.cell? ⟨wr.heap.size, 3, none⟩ = some (.slice la ln lc) := Own.cell (h := hO2) 3 (by simp [pcCells])
        have HTot2 := Lib.hid (Tot.later f HTot.out hO2.below)
        have HO2 := Lib.hid hO2
        clear hO2 hr' hone hiw HTot
        generalize wr.heap.size = g at *
        by_cases hbig : s + 1 + zs.length ≤ most
        · obtain ⟨m2, hm2⟩ : ∃ m2, most = s + 1 + zs.length + m2 := ⟨most - (s + 1 + zs.length), by omega⟩
          have Hm2 := Lib.hid hm2
          have hbig' : (s : Int) + (1 + (zs.length : Int)) ≤ (most : Int) := by omega
          clear hm2
          go_wp2_with fail
          rw [show ((most : Int) - ((s : Int) + (1 + (zs.length : Int)))) = (m2 : Int) from by have := Hm2.out; omega]
          refine (HI.out w2 la ln lc u m2 HTot2.out (by have := Hm2.out; omega)).mono ?_
          rintro e w3 ⟨r, rfl, hr1, hr2, hO3⟩
          have HO3 := Lib.hid ((HO2.out.tail).join hO3)
          have Hr1 := Lib.hid hr1
          clear hO3 hr1 HO2 d2 d3
          by_cases hrm : r ≤ m2
          · have hle : (s : Int) + (1 + (zs.length : Int)) + (r : Int) ≤ (most : Int) := by have := Hm2.out; omega
            have Hru := Lib.hid (Hr1.out hrm)
            go_wp2_with fail
            exact ⟨⟨k + 1, by omega, by go_num, by rw [Hsum.out, ← Hru.out]; go_num, by rw [Hsum.out, ← Hru.out]; omega, HO3.out⟩, by simp [intOf]; omega⟩
          · have hle : (most : Int) < (s : Int) + (1 + (zs.length : Int)) + (r : Int) := by have := Hm2.out; omega
            have hr3 : (r : Int) ≤ 140737488400000 := by have := Hm2.out; omega
            have hs3 : (s : Int) ≤ 1000 := by omega
            go_wp2_with fail
            go_ret
            exact ⟨s + (1 + zs.length) + r, by go_num, fun h => by omega, by have := Hm2.out; omega, HO3.out⟩
        · have hb2 : most < s + 1 + zs.length := by omega
          have hb3 : (most : Int) < (s : Int) + (1 + (zs.length : Int)) := by omega
          go_wp2_with fail
          go_ret
          exact ⟨s + (1 + zs.length), by go_num, fun h => by omega, by omega, HO2.out.tail⟩
      · obtain rfl : k = n := by omega
        have hT : ts.take k = ts := by rw [List.take_of_length_le]; rw [Hl.out]; exact Nat.le_refl _
        have HTk := Lib.hid (congrArg List.sum hT)
        have HO := Lib.hid hO
        clear hT hO
        go_wp2_with fail
        go_ret
        exact ⟨(ts.take k).sum, rfl, fun _ => by rw [HTk.out, Ht.out], by omega, HO.out⟩
end Go.Proofs.Ytgkkebenbpbhnaa
