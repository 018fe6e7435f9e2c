/- 'DiskPower': for whatever acts the law returns true, and writes nothing that was there. -/
import Derived.Test.YthmcdmnjjofehaaDPlans
import Derived.Test.YthmcdmnjjofehaaDOps
import Derived.LoopTactic
namespace Go.Proofs.Ythmcdmnjjofehaa
open Go.RowKit
set_option linter.unusedVariables false
set_option linter.unusedSimpArgs false

theorem zero_op (w : World) : Sem.run Try.prog (zeroValue 33) w = .ok (.agg #[.int .i64 0, .int .i64 0, .int .u8 0, .int .u64 0]) w := by kernel_rfl
theorem info_op (k x y p : Int) : (Try.prog.info? 33).map (·.size) = some (opCells k x y p).length := by
  show _ = some 4
  kernel_rfl
theorem op_one (k x y p : Int) : ∀ v ∈ opCells k x y p, v.oneCell' = true := by
  intro v hv
  simp only [opCells, List.mem_cons, List.not_mem_nil, or_false] at hv
  rcases hv with rfl | rfl | rfl | rfl <;> rfl

theorem DkAt.drop {W0 w : World} {d : Nat} {D : Dk} {L : List Rw} {r : Rw} (h : DkAt W0 w d D (r :: L)) : DkAt W0 w d D L := by
  obtain ⟨hD, kb, lb, n, sv, hn, hO⟩ := h
  exact ⟨hD, kb, lb, n, sv, hn, hO.fifth.tail⟩
theorem Own.one {W0 w : World} {L : List Rw} (h : Own W0 w L) {r : Rw} (hm : r ∈ L) : Own W0 w [r] := ⟨h.below, fun p hp => by rw [List.mem_singleton.1 hp]; exact h.rows r hm, List.pairwise_singleton _ _⟩
theorem DkAt.one {W0 w : World} {d : Nat} {D : Dk} {L : List Rw} (h : DkAt W0 w d D L) {r : Rw} (hm : r ∈ L) : Own W0 w [r] := by
  obtain ⟨hD, kb, lb, m, sv, hn, hO⟩ := h
  exact hO.one (List.mem_cons_of_mem _ (List.mem_cons_of_mem _ (List.mem_cons_of_mem _ (List.mem_cons_of_mem _ hm))))

theorem new_any (W0 w : World) (L : List Rw) (m : Nat) (h : Own W0 w L) (hm : m ≤ 4096) : Calls Try.prog 8 #[.int .i64 (m : Int)] w (NewAt W0 (max 1 m) L) := by
  by_cases h0 : m = 0
  · subst h0; exact new_zero W0 w L h
  · rw [Nat.max_eq_right (by omega)]; exact new_pos W0 w L m h (by omega) hm

theorem write_nought (D : Dk) (hd : D.down = false) (hl : D.left = 0) (x : Int) (s : List Value) :
    (writeM D x s).1.down = false ∧ (writeM D x s).1.left = 0 ∧ (writeM D x s).1.last.length = D.last.length ∧ (writeM D x s).1.steps ≤ D.steps + 1 ∧ (writeM D x s).1.since.length ≤ D.since.length + 1 := by
  unfold writeM
  split
  · exact ⟨hd, hl, rfl, by show D.steps ≤ _; omega, by show D.since.length ≤ _; omega⟩
  · unfold stepM
    rw [if_pos (show (putM D x.toNat s).left = 0 from hl)]
    exact ⟨hd, hl, by show (D.last.set _ _).length = _; rw [List.length_set], Int.le_refl _, by show (D.since ++ [_]).length ≤ _; simp⟩
theorem read_down (D : Dk) (hd : D.down = true) (x : Int) : (readM D x).1 = zSec ∧ (readM D x).2 = 3 := by
  have : refusedM D x = 3 := by unfold refusedM; rw [hd]; rfl
  unfold readM
  rw [this]; exact ⟨rfl, rfl⟩
theorem write_down (D : Dk) (hd : D.down = true) (x : Int) (s : List Value) : (writeM D x s).1 = D ∧ (writeM D x s).2 = 3 := by
  have : refusedM D x = 3 := by unfold refusedM; rw [hd]; rfl
  unfold writeM
  rw [this]; exact ⟨rfl, rfl⟩
theorem flush_down (D : Dk) (hd : D.down = true) : (flushM D).1 = D ∧ (flushM D).2 = 3 := by
  unfold flushM
  rw [hd]; exact ⟨rfl, rfl⟩
theorem read_up (D : Dk) (hd : D.down = false) (k : Nat) (hk : k < D.last.length) : (readM D k).1 = D.last[k] ∧ (readM D k).2 = 0 := by
  have : refusedM D k = 0 := by unfold refusedM; rw [hd, if_neg (by decide), if_neg (by omega)]
  unfold readM
  rw [this]
  refine ⟨?_, rfl⟩
  show D.last.getD k [] = _
  rw [List.getD_eq_getElem?_getD, List.getElem?_eq_getElem hk]; rfl

theorem wpList_make_sec {ops : Array Oper} {rest : List Oper} {op : Oper} {a : Act} {w : World} {Q : Exit → Act → World → Prop} (hgd : op.guard = none) (x y : Operand) (ho : op.op = .makeSlice 54 x y) (n : Nat) (hx : a.eval x = .int .i64 (n : Int)) (hy : a.eval y = .int .i64 (n : Int)) (hn : n ≤ 4096)
    (h : wpList Try.prog ops Q rest (a.put op.dst (.slice (some ⟨w.heap.size, 0, none⟩) n n)) (w.alloc (.cells (madeCells zSec.toArray (n * 64)) 39))) : wpList Try.prog ops Q (op :: rest) a w := by
  refine wpList_plain hgd fun K hK => ?_
  obtain ⟨i0, hi, hz0, hz1, hz2⟩ := info_parts info_s
  have hr := run_make (P := Try.prog) w 54 39 i0 (.agg zSec.toArray) Try.underlying54 hi hz0 .i64 .i64 (n : Int) (n : Int) (by omega) (Int.le_refl _) (by rw [hz2]; omega) (by omega)
  rw [hz1] at hr
  unfold Oper.wp execOp
  simp only [ho, hx, hy, Sem.run_bind, hr, Result.andThen_ok, Sem.run_pure]
  exact hK _ _ h
theorem DkAt.made {W0 w : World} {d : Nat} {D : Dk} {L : List Rw} (h : DkAt W0 w d D L) (n : Nat) (hn : n ≤ 4096) : DkAt W0 (w.alloc (.cells (madeCells zSec.toArray (n * 64)) 39)) d D (rowK w.heap.size n (List.replicate n zSec) :: L) := by
  obtain ⟨hD, kb, lb, m, sv, hm, hO⟩ := h
  have h2 := hO.made 39 64 (madeCells zSec.toArray (n * 64)) n (size_madeCells _ _) (by unfold maxLen; omega)
  rw [made_flat] at h2
  exact DkAt.more hD hm h2
theorem DkAt.fill {W0 w : World} {d g n : Nat} {D : Dk} {L : List Rw} {M : List (List Value)} (h : DkAt W0 w d D (rowK g n M :: L)) (hM : ∀ t ∈ M, t.length = 64) (hl : M.length = n) (k : Nat) (hk : k < n) (s : List Value) (hs : s.length = 64) :
    DkAt W0 (w.setCells g (k * 64) s) d D (rowK g n (M.set k s) :: L) := by
  obtain ⟨hD, kb, lb, m, sv, hm, hO⟩ := h
  have h1 := Own.setCells (h := hO.fifth) s (k * 64)
  rw [flat_splice 64 (by decide) M hM k (by omega) s hs] at h1
  exact DkAt.more hD hm h1
theorem DkAt.there {W0 w : World} {d g n : Nat} {D : Dk} {L : List Rw} {M : List (List Value)} (h : DkAt W0 w d D (rowK g n M :: L)) (k : Nat) (hk : k < n) : w.there g (k * 64) 64 :=
  Own.there (h := h.one (r := rowK g n M) (List.mem_cons_self ..)) (k * 64) 64 (by show k * 64 + 64 ≤ n * 64; omega)

theorem xor_in (a b : Int) : 0 ≤ bits BinOp.xor IntKind.u64 a b ∧ bits BinOp.xor IntKind.u64 a b < 18446744073709551616 := by
  obtain ⟨m, hm⟩ : ∃ m, bits BinOp.xor IntKind.u64 a b = IntKind.u64.wrap m := ⟨_, rfl⟩
  have h : IntKind.u64.wrap m = m % 18446744073709551616 := by simp [IntKind.wrap, IntKind.bits, IntKind.signed]
  rw [hm, h]
  omega
def WrAt (w : World) (d n0 len : Nat) (t : Value) (wr : World) : Prop := ∃ (i : Nat) (D : Dk), t = .int .i64 i ∧ i ≤ len ∧ DkAt w wr d D [] ∧ D.down = false ∧ D.left = 0 ∧ D.last.length = n0 ∧ D.steps ≤ (i : Int) ∧ D.since.length ≤ i ∧ D.By
def DnAt (w : World) (d len : Nat) (D : Dk) (t : Value) (wr : World) : Prop := ∃ (i : Nat), t = .int .i64 i ∧ i ≤ len ∧ DkAt w wr d D []
def FlAt (w : World) (d g n : Nat) (D : Dk) (t : Value) (wr : World) : Prop := ∃ (i : Nat) (M : List (List Value)), t = .int .i64 i ∧ i ≤ n ∧ DkAt w wr d D [rowK g n M] ∧ M.length = n ∧ (∀ s ∈ M, s.length = 64) ∧ ∀ j, j < i → M[j]? = D.last[j]?
def SmAt (w : World) (d g n : Nat) (D : Dk) (M : List (List Value)) (t : Value) (wr : World) : Prop := ∃ (i : Nat), t = .int .i64 i ∧ i ≤ n ∧ DkAt w wr d D [rowK g n M]
attribute [local go_sem ↓] wp_load_sec Go.wp_at_zero Go.wp_at_succ

set_option maxHeartbeats 6400000 in
set_option maxRecDepth 100000 in
theorem power_any (n keeps : Int) (a : Option Addr) (len cap : Nat) (w : World) (hn : (Lit.int .i64 n).wf = true) (hk : (Lit.int .u64 keeps).wf = true) (hops : IsOps w a len) (hlen : len ≤ maxLen) :
    Calls Try.prog 5 #[.int .i64 n, .slice a len cap, .int .u64 keeps] w fun e w' => e = .returned (.bool true) ∧ Below w.heap.size w w' := by
  have hu1 : IntKind.u64.min = 0 := rfl
  have hu2 : IntKind.u64.max = 18446744073709551615 := rfl
  simp only [Lit.wf, Bool.and_eq_true, decide_eq_true_eq] at hk
  have hk0 : 0 ≤ keeps := by omega
  have hk1 : keeps < 18446744073709551616 := by omega
  clear hu1 hu2 hk hn
  have hlen2 : len < 9223372036854775808 := Nat.lt_of_le_of_lt hlen (by unfold maxLen; decide)
  clear hlen
  have Hops := Lib.hid hops
  clear hops
  obtain ⟨m, hm, hmb⟩ := and_mask n 31 (by decide)
  have hm : bits BinOp.and IntKind.i64 n 31 = (m : Int) := hm
  by_cases hbig : 60 < len
  · have t1 : decide ((60 : Int) < (len : Int)) = true := by simp; omega
    go_enter Try.func5, Try.ntmps5
    go_wp2_with (go_at_call 7; refine (alive_any _).mono ?_; rintro e w1 ⟨rfl, hb1⟩)
    go_ret
    exact ⟨rfl, hb1⟩
  · have t1 : decide ((60 : Int) < (len : Int)) = false := by simp; omega
    go_enter Try.func5, Try.ntmps5
    go_wp2_with (go_at_call 7; refine (alive_any _).mono ?_; rintro e w1 ⟨rfl, hb1⟩)
    refine (new_any w w1 [] m (Own.of_below hb1) (by omega)).mono ?_
    rintro e w2 ⟨d, rfl, hA⟩
    obtain ⟨n0, hn0⟩ : ∃ n0, max 1 m = n0 := ⟨_, rfl⟩
    have hn0b : n0 ≤ 31 := by omega
    rw [hn0] at hA
    have Hst := Lib.hid (show WrAt w d n0 len (.int .i64 0) w2 from ⟨0, _, rfl, Nat.zero_le _, hA, rfl, rfl, by simp [newM], (by decide : (0 : Int) ≤ 0), Nat.le_refl _, newM_by _⟩)
    clear hA hn0
    go_wp2_with fail
    go_loopw [30] (fun t wr => WrAt w d n0 len t wr) (fun t _ => 61 - (intOf t).toNat)
    case atStart => exact Hst.out
    case round =>
      obtain ⟨i, D, rfl, hi, hA, hdn, hlf, hl, hst, hsi, hby⟩ := hrel
      by_cases hlt : i < len
      · obtain ⟨b, off, k, x, y, p, rfl, hr, wx, wy, wp, wk⟩ := (Hops.out.below hA.below) i hlt
        have hiw := info_op k x y p
        have hz := zero_op
        have Hone := Lib.hid (op_one k x y p)
        have HA := Lib.hid hA
        have HI := Lib.hid (write_nought D hdn hlf x (secB y))
        have HY := Lib.hid (writeM_by D hby x (secB y) (secB_by y wy))
        have Hd := Lib.hid (show D.steps < 9223372036854775807 ∧ D.since.length < 1000000 ∧ D.steps ≤ (i : Int) ∧ D.since.length ≤ i ∧ D.last.length = n0 from ⟨by omega, by omega, hst, hsi, hl⟩)
        clear hA hdn hlf hl hst hsi hby
        go_wp2_with (first
          | (refine wpList_load_mid rfl 33 (.tmp 32) rfl b (off + i * 4) rfl (opCells k x y p) _ hr Try.underlying33 rfl hiw ?_)
          | (refine wpList_store_dk rfl 33 (.tmp 9) (.tmp 33) rfl HA.out (opCells k x y p) wr.heap.size rfl rfl rfl rfl hiw Hone.out ?_))
        intro w3 hA3
        have c1 : w3.cell? ⟨wr.heap.size, 1, none⟩ = some (.int .i64 x) := hA3.cell (e := 33) (size := 4) (n := 1) (cap := 1) (xs := opCells k x y p) (by simp [opCells]) 1 (by decide)
        have c2 : w3.cell? ⟨wr.heap.size, 2, none⟩ = some (.int .u8 y) := hA3.cell (e := 33) (size := 4) (n := 1) (cap := 1) (xs := opCells k x y p) (by simp [opCells]) 2 (by decide)
        have hb := built_secB y
        have HA3 := Lib.hid hA3
        clear hA3
        go_wp2_with (refine wpList_build rfl 39 _ rfl [(0, .int .u8 y)] rfl _ hb ?_)
        refine (write_any w w3 d D _ x (secB y) HA3.out (secB_sec y) Hd.out.1 Hd.out.2.1).mono ?_
        rintro e w4 ⟨rfl, hA4⟩
        have HA4 := Lib.hid hA4.drop
        clear hA4
        go_wp2_with fail
        go_roundw
        case rel => exact ⟨i + 1, _, by go_num, by omega, HA4.out, HI.out.1, HI.out.2.1, by rw [HI.out.2.2.1]; exact Hd.out.2.2.2.2, by have := HI.out.2.2.2.1; have := Hd.out.2.2.1; omega, by have := HI.out.2.2.2.2; have := Hd.out.2.2.2.1; omega, HY.out⟩
        case measure => simp [intOf]; omega
      · obtain rfl : i = len := by omega
        have HA := Lib.hid hA
        have HC := Lib.hid (show (crashM D keeps).down = true ∧ (crashM D keeps).since = [] ∧ (crashM D keeps).last.length = n0 ∧ (crashM D keeps).steps ≤ (i : Int) ∧ (crashM D keeps).By from ⟨rfl, rfl, (lastTo_length _ _ _).trans hl, hst, crashM_by D hby keeps⟩)
        clear hA hdn hlf hl hst hsi hby Hst
        go_wp2_with fail
        refine (crash_any w wr d D [] keeps HA.out hk0 hk1).mono ?_
        rintro e w3 ⟨rfl, hA3⟩
        generalize crashM D keeps = D2 at *
        have HA3 := Lib.hid hA3
        clear hA3 HA
        go_wp2_with (go_at_call 19; refine (steps_any w w3 d D2 _ HA3.out).mono ?_; rintro e w' ⟨rfl, rfl⟩)
        have Hst := Lib.hid (show DnAt w d i D2 (.int .i64 0) w3 from ⟨0, rfl, Nat.zero_le _, HA3.out⟩)
        clear HA3
        go_wp2_with fail
        go_loopw [49] (fun t wr => DnAt w d i D2 t wr) (fun t _ => 61 - (intOf t).toNat)
        case atStart => exact Hst.out
        case round =>
          obtain ⟨j, rfl, hj, hA⟩ := hrel
          by_cases hlt : j < i
          · obtain ⟨b, off, k, x, y, p, rfl, hr, wx, wy, wp, wk⟩ := (Hops.out.below hA.below) j hlt
            have hiw := info_op k x y p
            have hz := zero_op
            have hzs := zero_sector
            have hz2 : (Try.prog.info? 39).map (·.size) = some zSec.length := info_sector
            have Hone := Lib.hid (op_one k x y p)
            have HA := Lib.hid hA
            clear hA
            go_wp2_with (first
              | (refine wpList_load_mid rfl 33 (.tmp 51) rfl b (off + j * 4) rfl (opCells k x y p) _ hr Try.underlying33 rfl hiw ?_)
              | (refine wpList_store_dk rfl 33 (.tmp 12) (.tmp 52) rfl HA.out (opCells k x y p) wr.heap.size rfl rfl rfl rfl hiw Hone.out ?_))
            intro w4 hA4
            have c1 : w4.cell? ⟨wr.heap.size, 1, none⟩ = some (.int .i64 x) := hA4.cell (e := 33) (size := 4) (n := 1) (cap := 1) (xs := opCells k x y p) (by simp [opCells]) 1 (by decide)
            have HA4 := Lib.hid hA4
            clear hA4
            go_wp2_with fail
            refine (read_any w w4 d D2 _ x HA4.out).mono ?_
            rintro e w5 ⟨rfl, hb5⟩
            rw [(read_down D2 HC.out.1 x).1, (read_down D2 HC.out.1 x).2]
            have hA5 := HA4.out.later hb5
            have HA5 := Lib.hid hA5
            clear hA5 hb5 c1
            go_wp2_with (refine wpList_store_dk rfl 39 (.tmp 13) (.tmp 58) rfl HA5.out zSec w5.heap.size rfl rfl rfl rfl hz2 zSec_sec.2 ?_)
            intro w6 hA6
            have c1 : w6.cell? ⟨wr.heap.size, 1, none⟩ = some (.int .i64 x) := hA6.cell (e := 33) (size := 4) (n := 1) (cap := 1) (xs := opCells k x y p) (by simp [opCells]) 1 (by decide)
            have HA6 := Lib.hid hA6
            clear hA6
            have hb := built_sector
            go_wp2_with (refine wpList_build rfl 39 #[] rfl [] rfl _ hb ?_)
            refine (write_any w w6 d D2 _ x zSec HA6.out zSec_sec (by have := HC.out.2.2.2.1; omega) (by rw [HC.out.2.1]; decide)).mono ?_
            rintro e w7 ⟨rfl, hA7⟩
            rw [(write_down D2 HC.out.1 x zSec).1] at hA7
            rw [(write_down D2 HC.out.1 x zSec).2]
            have HA7 := Lib.hid hA7
            clear hA7
            go_wp2_with fail
            refine (flush_any w w7 d D2 _ HA7.out (by have := HC.out.2.2.2.1; omega)).mono ?_
            rintro e w8 ⟨rfl, hA8⟩
            rw [(flush_down D2 HC.out.1).1] at hA8
            rw [(flush_down D2 HC.out.1).2]
            have HA8 := Lib.hid hA8
            have hdw := HC.out.1
            clear hA8
            go_wp2_with (go_at_call 18; refine (down_any w w8 d D2 _ HA8.out).mono ?_; rintro e w' ⟨rfl, rfl⟩)
            go_roundw
            case rel => exact ⟨j + 1, by go_num, by omega, HA8.out.drop.drop⟩
            case measure => simp [intOf]; omega
          · obtain rfl : j = i := by omega
            have HA := Lib.hid hA
            clear hA Hst
            go_wp2_with fail
            refine (on_any w wr d D2 [] HA.out).mono ?_
            rintro e w4 ⟨rfl, hA4⟩
            have HC3 := Lib.hid (show (onM D2).down = false ∧ (onM D2).since = [] ∧ (onM D2).last.length = n0 ∧ (onM D2).steps = D2.steps ∧ (onM D2).By from ⟨rfl, HC.out.2.1, HC.out.2.2.1, rfl, HC.out.2.2.2.2.kept, HC.out.2.2.2.2.last, HC.out.2.2.2.2.since⟩)
            have HL3 := Lib.hid HC3.out.2.2.1
            generalize onM D2 = D3 at *
            have Hst := Lib.hid (show FlAt w d w4.heap.size n0 D3 (.int .i64 0) (w4.alloc (.cells (madeCells zSec.toArray (n0 * 64)) 39)) from ⟨0, _, rfl, Nat.zero_le _, hA4.made n0 (by omega), by simp, (fun s hs => by rw [(List.mem_replicate.1 hs).2]; rfl), fun j hj => by omega⟩)
            have HA4 := Lib.hid hA4
            clear hA4 HA
            go_wp2_with (first
              | (go_at_call 20; refine (len_any w w4 d D3 _ HA4.out).mono ?_; rintro e w' ⟨rfl, rfl⟩; rw [HL3.out])
              | (refine wpList_make_sec rfl (.tmp 84) (.tmp 84) rfl n0 rfl rfl (by omega) ?_))
            clear HA4
            generalize w4.alloc (.cells (madeCells zSec.toArray (n0 * 64)) 39) = w5 at *
            generalize w4.heap.size = g at *
            go_loopw [88] (fun t wr => FlAt w d g n0 D3 t wr) (fun t _ => 41 - (intOf t).toNat)
            case atStart => exact Hst.out
            case round =>
              obtain ⟨k, M, rfl, hk, hA, hMl, hM64, hMj⟩ := hrel
              by_cases hlt : k < n0
              · have hk3 : k < D3.last.length := by rw [HL3.out]; exact hlt
                have hsec : isSec D3.last[k] := hA.ok.last _ (List.getElem_mem _)
                have hget : D3.last[k]? = some D3.last[k] := List.getElem?_eq_getElem hk3
                have hrd := read_up D3 HC3.out.1 k hk3
                generalize D3.last[k] = s at *
                have HA := Lib.hid hA
                have HM := Lib.hid (show M.length = n0 ∧ (∀ s ∈ M, s.length = 64) ∧ (∀ j, j < k → M[j]? = D3.last[j]?) ∧ D3.last[k]? = some s from ⟨hMl, hM64, hMj, hget⟩)
                have Hrd := Lib.hid hrd
                have Hsec := Lib.hid hsec
                have hk0' : (0 : Int) ≤ (k : Int) := by omega
                have hk1' : (k : Int) < (n0 : Int) := by omega
                clear hA hMl hM64 hMj hget hrd hsec hk3
                go_wp2_with fail
                refine (read_any w wr d D3 _ (k : Int) HA.out).mono ?_
                rintro e w6 ⟨rfl, hb6⟩
                rw [Hrd.out.1, Hrd.out.2]
                have hA6 := HA.out.later hb6
                have ck : w6.there g (k * 64) s.toArray.size := by have := hA6.there k hlt; simpa [Hsec.out.1] using this
                have his : (Try.prog.info? 39).map (·.size) = some s.toArray.size := by simpa [Hsec.out.1] using info_sector
                have hs1 := Hsec.out.2
                have HA6 := Lib.hid (hA6.fill HM.out.2.1 HM.out.1 k hlt s Hsec.out.1)
                clear hA6 hb6
                go_wp2_with (refine wpList_store_mid rfl 39 (.tmp 99) (.tmp 97) rfl g (k * 64) s.toArray rfl rfl ck his (all_oneCell_toArray hs1) ?_)
                go_roundw
                case rel =>
                  refine ⟨k + 1, M.set k s, by go_num, by omega, HA6.out, by rw [List.length_set]; exact HM.out.1, fun t ht => ?_, fun j hj => ?_⟩
                  · rcases List.mem_or_eq_of_mem_set ht with h1 | rfl
                    · exact HM.out.2.1 t h1
                    · exact Hsec.out.1
                  · rw [List.getElem?_set]
                    by_cases hkj : k = j
                    · subst hkj
                      rw [if_pos rfl, if_pos (by rw [HM.out.1]; exact hlt)]
                      exact HM.out.2.2.2.symm
                    · rw [if_neg hkj]; exact HM.out.2.2.1 j (by omega)
                case measure => simp [intOf]; omega
              · obtain rfl : k = n0 := by omega
                have hMe : M = D3.last := by
                  apply List.ext_getElem?
                  intro j
                  by_cases hj : j < k
                  · exact hMj j hj
                  · rw [List.getElem?_eq_none (by omega), List.getElem?_eq_none (by rw [HL3.out]; omega)]
                have HMe := Lib.hid hMe
                have HA := Lib.hid hA
                clear hA hMe hMj hM64 hMl Hst
                have Hx := Lib.hid (xor_in IntKind.u64.max keeps)
                go_wp2_with fail
                generalize bits BinOp.xor IntKind.u64 IntKind.u64.max keeps = kk at *
                refine (crash_any w wr d D3 _ kk HA.out Hx.out.1 Hx.out.2).mono ?_
                rintro e w6 ⟨rfl, hA6⟩
                have HA6 := Lib.hid hA6
                clear hA6
                go_wp2_with fail
                refine (on_any w w6 d _ _ HA6.out).mono ?_
                rintro e w7 ⟨rfl, hA7⟩
                have HC5 := Lib.hid (show (onM (crashM D3 kk)).down = false ∧ (onM (crashM D3 kk)).last = M ∧ (onM (crashM D3 kk)).steps = D2.steps ∧ (∀ s ∈ M, byteSec s) ∧ M.length = k from
                  ⟨rfl, by rw [HMe.out]; show lastTo _ D3 D3.since.length = D3.last; rw [HC3.out.2.1]; rfl, by rw [← HC3.out.2.2.2.1]; rfl, by rw [HMe.out]; exact HC3.out.2.2.2.2.last, by rw [HMe.out]; exact HL3.out⟩)
                generalize onM (crashM D3 kk) = D5 at *
                clear HA6 HMe HC3 HL3
                have Hst := Lib.hid (show SmAt w d g k D5 M (.int .i64 0) w7 from ⟨0, rfl, Nat.zero_le _, hA7⟩)
                clear hA7 HA
                go_wp2_with fail
                go_loopw [109] (fun t wr => SmAt w d g k D5 M t wr) (fun t _ => 41 - (intOf t).toNat)
                case atStart => exact Hst.out
                case round =>
                  obtain ⟨q, rfl, hq, hA⟩ := hrel
                  by_cases hlt : q < k
                  · have hq5 : q < D5.last.length := by rw [HC5.out.2.1, HC5.out.2.2.2.2]; exact hlt
                    have hqM : q < M.length := by rw [HC5.out.2.2.2.2]; exact hlt
                    have hsec : isSec D5.last[q] := hA.ok.last _ (List.getElem_mem _)
                    have hrd := read_up D5 HC5.out.1 q hq5
                    have he : D5.last[q] = M[q] := by simp only [HC5.out.2.1]
                    rw [he] at hsec hrd
                    have hbys := HC5.out.2.2.2.1 _ (List.getElem_mem hqM)
                    have HF := Lib.hid (flat_take 64 M (fun t ht => by rw [← HC5.out.2.1] at ht; exact (hA.ok.last t ht).1) q hqM)
                    generalize M[q] = s at *
                    have hEq := eqSec_same s hbys hsec.1
                    have HA := Lib.hid hA
                    have Hrd := Lib.hid hrd
                    have Hsec := Lib.hid hsec
                    have hzs := zero_sector
                    have his : (Try.prog.info? 39).map (·.size) = some s.length := by rw [hsec.1]; exact info_sector
                    have hq0' : (0 : Int) ≤ (q : Int) := by omega
                    have hq1' : (q : Int) < (k : Int) := by omega
                    clear hA hrd hsec he hq5
                    go_wp2_with fail
                    refine (read_any w wr d D5 _ (q : Int) HA.out).mono ?_
                    rintro e w8 ⟨rfl, hb8⟩
                    rw [Hrd.out.1, Hrd.out.2]
                    have HA8 := Lib.hid (HA.out.later hb8)
                    clear hb8
                    go_wp2_with (refine wpList_store_dk rfl 39 (.tmp 18) (.tmp 116) rfl HA8.out s w8.heap.size rfl rfl rfl (by rw [Hsec.out.1]; rfl) his Hsec.out.2 ?_)
                    intro w9 hA9
                    have cb : w9.rangeAt w8.heap.size 0 s := by have := (hA9.one (List.mem_cons_self ..)).range 0 s.length; rw [List.drop_zero, List.take_length] at this; exact this
                    have cg : w9.rangeAt g (q * 64) s := by
                      have := Own.range (h := hA9.one (r := rowK g k M) (List.mem_cons_of_mem _ (List.mem_cons_self ..))) (q * 64) 64
                      rw [HF.out] at this
                      exact this
                    have q1 := (sec_is (w := w9.drew) cb Hsec.out.1).1
                    have q2 := (sec_is (w := w9.drew) cb Hsec.out.1).2
                    have q3 := (sec_is (w := w9.drew) cg Hsec.out.1).1
                    have q4 := (sec_is (w := w9.drew) cg Hsec.out.1).2
                    have HA9 := Lib.hid hA9.drew
                    clear hA9 cb cg
                    go_wp2_with fail
                    go_region
                    all_goals go_wp2_with fail
                    all_goals exact ⟨⟨q + 1, by go_num, by omega, HA9.out.drop⟩, by simp [intOf]; omega⟩
                  · obtain rfl : q = k := by omega
                    have HA := Lib.hid hA
                    have hbw := hA.below
                    have HS := Lib.hid HC5.out.2.2.1
                    clear hA Hst
                    go_wp2_with (go_at_call 19; refine (steps_any w wr d D5 _ HA.out).mono ?_; rintro e w' ⟨rfl, rfl⟩; rw [HS.out])
                    go_ret
                    exact ⟨rfl, hbw⟩
end Go.Proofs.Ythmcdmnjjofehaa
