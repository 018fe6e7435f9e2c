/- Texts one behind the other, each in a section of its own: what calls make of memory, step by step. -/
import Derived.Test.YtdjoahhcmkedhaaGreatDoorPackTreeBad3
import Derived.Deep.QuietTactic
import Derived.BigQuiet
import Derived.Laws.BitsAllLaws
import Derived.Laws.BytesArg
import Derived.Deep.RegionHeld3

/- Package rec: what takes parts. -/
section
namespace Go.Proofs.YtdjoahhcmkedhaaGreatDoor
open Go.RowKit
set_option linter.unusedVariables false
set_option maxRecDepth 100000
set_option linter.unusedSimpArgs false

/-- A reader in its box. -/
def rowR (r : Nat) (v : Value) (bad : Bool) : Rw := ⟨125, 2, .slice (some ⟨r, 0, none⟩) 1 1, 1, [v, .bool bad]⟩
/-- A slice value that is a piece of a row of bytes of L, and reads as zs. -/
def Pc (L : List Rw) (v : Value) (zs : List Int) : Prop :=
  ∃ a c, v = .slice a zs.length c ∧ zs.length ≤ c ∧ c ≤ maxLen ∧ Byts zs ∧
    ((a = none ∧ c = 0) ∨ ∃ g o, a = some ⟨g, o, none⟩ ∧ (zs ≠ [] → ∃ cap ys, rowU (.slice (some ⟨g, 0, none⟩) ys.length cap) ys ∈ L ∧ o + zs.length ≤ ys.length ∧ zs = (ys.drop o).take zs.length))
theorem Pc.mono {L L' : List Rw} {v : Value} {zs : List Int} (h : Pc L v zs) (hs : ∀ r ∈ L, r ∈ L') : Pc L' v zs := by
  obtain ⟨a, c, hv, h1, h2, hz, h3⟩ := h
  refine ⟨a, c, hv, h1, h2, hz, ?_⟩
  rcases h3 with h3 | ⟨g, o, ha, h3⟩
  · exact .inl h3
  · exact .inr ⟨g, o, ha, fun hne => by obtain ⟨cap, ys, hm, h4⟩ := h3 hne; exact ⟨cap, ys, hs _ hm, h4⟩⟩
theorem Pc.cons {L : List Rw} {v : Value} {zs : List Int} (h : Pc L v zs) (r : Rw) : Pc (r :: L) v zs := h.mono fun _ hm => List.mem_cons_of_mem _ hm
theorem Pc.nil (L : List Rw) : Pc L (.slice none 0 0) [] := ⟨none, 0, rfl, Nat.le_refl _, Nat.zero_le _, Byts.nil, .inl ⟨rfl, rfl⟩⟩
theorem Pc.by {W0 : Base} {w : World} {L : List Rw} {v : Value} {zs : List Int} (h : Pc L v zs) (hO : Own W0 w L) : By w v zs := by
  obtain ⟨a, c, hv, h1, h2, hz, h3⟩ := h
  refine ⟨?_, hz, a, c, hv, h1, h2⟩
  rcases h3 with ⟨rfl, rfl⟩ | ⟨g, o, rfl, h3⟩
  · have hn : zs = [] := List.eq_nil_of_length_eq_zero (by omega)
    subst hn
    exact .inl ⟨hv, rfl, rfl⟩
  · refine .inr ⟨⟨g, o, none⟩, c, hv, fun j u hj => ?_, bs_one _⟩
    have hlt : j < zs.length := by
      rcases Nat.lt_or_ge j zs.length with h2 | h2
      · exact h2
      · rw [List.getElem?_eq_none (by rw [bs_length]; exact h2)] at hj; cases hj
    have hne : zs ≠ [] := by intro e; subst e; simp at hlt
    obtain ⟨cap, ys, hm, h5, h6⟩ := h3 hne
    have hr := hO.only hm
    rw [Addr.add_mid, Own.cell (h := hr) (o + j) (by omega), ← hj]
    rw [h6]
    simp [bs, List.getElem?_take, hlt]
/-- A row of the call's own, as a piece. -/
theorem Pc.all {W0 : Base} {w : World} {L : List Rw} {v : Value} {zs : List Int} (h : Own W0 w (rowU v zs :: L)) (hz : Byts zs) : Pc (rowU v zs :: L) v zs := by
  by_cases hn : zs.length = 0
  · have hn' : zs = [] := List.eq_nil_of_length_eq_zero hn
    subst hn'
    rcases (Own.head h).2 with ⟨h2, _⟩ | ⟨g, cp, cur, h2, _, _, h3, h4, _⟩
    · have h2' : v = .slice none 0 0 := h2
      exact ⟨none, 0, h2', Nat.le_refl _, Nat.zero_le _, Byts.nil, .inl ⟨rfl, rfl⟩⟩
    · exact ⟨_, cp, h2, h3, h4, Byts.nil, .inr ⟨g, 0, rfl, fun hne => absurd rfl hne⟩⟩
  · obtain ⟨g, cap, hv, _, _, h1, h2⟩ := Own.form (h := h) (by omega)
    have hv' : v = .slice (some ⟨g, 0, none⟩) zs.length cap := hv
    refine ⟨_, cap, hv', h1, h2, hz, .inr ⟨g, 0, rfl, fun _ => ⟨cap, zs, by rw [← hv']; exact List.mem_cons_self .., by omega, by simp⟩⟩⟩
theorem Pc.form {L : List Rw} {v : Value} {zs : List Int} (h : Pc L v zs) : ∃ a k c, v = .slice a k c := by
  obtain ⟨a, c, hv, _⟩ := h
  exact ⟨_, _, _, hv⟩
theorem Pc.byts {L : List Rw} {v : Value} {zs : List Int} (h : Pc L v zs) : Byts zs := by
  obtain ⟨a, c, hv, h1, h2, hz, h3⟩ := h
  exact hz

set_option maxHeartbeats 800000 in
set_option maxRecDepth 100000 in
theorem clone_any (v : Value) (zs : List Int) (w : World) (h : By w v zs) (hl : zs.length ≤ 140737488355328) :
    Calls Tryz.prog 59 #[v] w fun e w' => ∃ v', e = .returned v' ∧ Own w w' [rowU v' zs] := by
  obtain ⟨i0, hi, hz0, hz1, hz2⟩ := info_parts info_u
  have Hy := Lib.hid h
  obtain ⟨hs, hz, a, c, rfl, _, _⟩ := h
  have hnil := Lib.run_eql_slice_nil (P := Tryz.prog) w 36 5 a zs.length c 0 0 Tryz.underlying36
  cases a with
  | none =>
    have hn : zs.length = 0 := by
      rcases hs with ⟨_, h0, _⟩ | ⟨ad, c', hv', _⟩
      · exact h0
      · injection hv' with e1 e2 e3; cases e1
    have hn' : zs = [] := List.eq_nil_of_length_eq_zero hn
    subst hn'
    have hnil : Sem.run Tryz.prog (binOp BinOp.eql 36 (.slice none 0 c) (.slice none 0 0)) w = .ok (.bool true) w := hnil
    clear hs hn hz
    go_enter Tryz.func59, Tryz.ntmps59
    go_wp2_with fail
    go_ret
    exact ⟨_, rfl, (Own.start w).nil _ _⟩
  | some ad =>
    have hnil : Sem.run Tryz.prog (binOp BinOp.eql 36 (.slice (some ad) zs.length c) (.slice none 0 0)) w = .ok (.bool false) w := hnil
    have HO := Lib.hid ((Own.start w).made 5 1 #[] 0 rfl (Nat.zero_le _))
    have Hs := Lib.hid (hs.later (Below.alloc (Below.refl _ w) (Nat.le_refl _) (.cells #[] 5)))
    clear hs hz
    go_enter Tryz.func59, Tryz.ntmps59
    go_wp2_with (at_builtin; refine wpList_append_src rfl (.tmp 5) (.tmp 6) 36 rfl (.slice (some ⟨w.heap.size, 0, none⟩) 0 0) 0 [] (.slice (some ad) zs.length c) zs.length (bs zs) rfl rfl HO.out i0 (.int .u8 0) 1 Tryz.underlying36 hi hz0 hz1 hz2 rfl (by decide) Hs.out (by rw [bs_length, Nat.mul_one]) (by unfold maxLen; omega) (by omega) ?_)
    intro v' w' hO'
    have HO' := Lib.hid hO'
    clear hO'
    go_wp2_with fail
    go_ret
    exact ⟨_, rfl, HO'.out⟩

theorem clone_nil (w : World) : Calls Tryz.prog 59 #[.slice none 0 0] w fun e w' => e = .returned (.slice none 0 0) ∧ w = w' := by
  have hnil := Lib.run_eql_slice_nil (P := Tryz.prog) w 36 5 none 0 0 0 0 Tryz.underlying36
  have hnil : Sem.run Tryz.prog (binOp BinOp.eql 36 (.slice none 0 0) (.slice none 0 0)) w = .ok (.bool true) w := hnil
  go_enter Tryz.func59, Tryz.ntmps59
  go_wp2_with fail
  go_ret
  exact ⟨rfl, rfl⟩
theorem zero_reader (w : World) : Sem.run Tryz.prog (zeroValue 125) w = .ok (.agg #[.slice none 0 0, .bool false]) w := by kernel_rfl
set_option maxHeartbeats 800000 in
theorem rread_any (v : Value) (zs : List Int) (w : World) (h : By w v zs) (hl : zs.length ≤ 140737488355328) :
    Calls Tryz.prog 42 #[v] w fun e w' => ∃ r v', e = .returned (.pointer (some ⟨r, 0, none⟩)) ∧ Own w w' [rowR r v' false, rowU v' zs] ∧ Pc [rowU v' zs] v' zs := by
  have hz := h.2.1
  have Hy := Lib.hid h
  obtain ⟨_, _, a, c, rfl, _, _⟩ := h
  have hzr := zero_reader
  go_enter Tryz.func42, Tryz.ntmps42
  go_wp2_with fail
  refine (clone_any _ zs w Hy.out hl).mono ?_
  rintro e w1 ⟨v1, rfl, hO⟩
  have HO := Lib.hid hO
  obtain ⟨a1, c1, rfl, _, _⟩ := Own.sized (h := hO)
  clear hO
  go_wp2_with fail
  go_ret
  exact ⟨_, _, rfl, HO.out.made 125 2 #[.slice a1 zs.length c1, .bool false] 1 rfl (by unfold maxLen; decide), Pc.all HO.out hz⟩

/-- What a reader's box holds. -/
theorem reader_cells {W0 : Base} {w : World} {r : Nat} {v : Value} {bad : Bool} {L : List Rw} (h : Own W0 w (rowR r v bad :: L)) :
    w.cell? ⟨r, 0, none⟩ = some v ∧ w.cell? ⟨r, 1, none⟩ = some (.bool bad) ∧ w.frozen? ⟨r, 0, none⟩ = false ∧ w.frozen? ⟨r, 1, none⟩ = false :=
  ⟨Own.cell (h := h) 0 (by decide), Own.cell (h := h) 1 (by decide), Own.free (h := h) 0, Own.free (h := h) 1⟩
theorem reader_set0 {W0 : Base} {w : World} {r : Nat} {v : Value} {bad : Bool} {L : List Rw} (h : Own W0 w (rowR r v bad :: L)) (u : Value) : Own W0 (w.setCell ⟨r, 0, none⟩ u) (rowR r u bad :: L) := Own.set (h := h) 0 u
theorem reader_set1 {W0 : Base} {w : World} {r : Nat} {v : Value} {bad : Bool} {L : List Rw} (h : Own W0 w (rowR r v bad :: L)) (b : Bool) : Own W0 (w.setCell ⟨r, 1, none⟩ (.bool b)) (rowR r v b :: L) := Own.set (h := h) 1 (.bool b)

set_option maxHeartbeats 800000 in
theorem spoil_any (W0 : Base) (w : World) (r : Nat) (v : Value) (bad : Bool) (L : List Rw) (h : Own W0 w (rowR r v bad :: L)) :
    Calls Tryz.prog 96 #[.pointer (some ⟨r, 0, none⟩)] w fun e w' => e = .returned (.tuple #[]) ∧ Own W0 w' (rowR r (.slice none 0 0) true :: L) := by
  obtain ⟨c0, c1, f0, f1⟩ := reader_cells h
  have HN := Lib.hid (reader_set1 (reader_set0 h (.slice none 0 0)) true)
  clear h
  go_enter Tryz.func96, Tryz.ntmps96
  go_wp2_with fail
  go_end0
  exact ⟨rfl, HN.out⟩

theorem Pc.head {L : List Rw} {g o c : Nat} {zs : List Int} (h : Pc L (.slice (some ⟨g, o, none⟩) zs.length c) zs) (n : Nat) (hn : n ≤ zs.length) : Pc L (.slice (some ⟨g, o, none⟩) n c) (zs.take n) := by
  obtain ⟨a, c', hv, h1, h2, hz, h3⟩ := h
  injection hv with e1 e2 e3
  subst e1 e3
  have hl : (zs.take n).length = n := by rw [List.length_take]; omega
  refine ⟨_, c, by rw [hl], by omega, h2, hz.take n, ?_⟩
  rcases h3 with ⟨h3, _⟩ | ⟨g', o', ha, h3⟩
  · cases h3
  · injection ha with ha
    injection ha with e1 e2 e3
    subst e1 e2
    refine .inr ⟨g, o, rfl, fun hne => ?_⟩
    obtain ⟨cap, ys, hm, h4, h5⟩ := h3 (by intro e; subst e; simp at hne)
    refine ⟨cap, ys, hm, by omega, ?_⟩
    rw [hl]
    conv => lhs; rw [h5]
    rw [List.take_take, Nat.min_eq_left hn]
theorem Pc.rest {L : List Rw} {g o c : Nat} {zs : List Int} (h : Pc L (.slice (some ⟨g, o, none⟩) zs.length c) zs) (n k : Nat) (hn : n ≤ zs.length) (hk : k = zs.length - n) : Pc L (.slice (some ⟨g, o + n, none⟩) k (c - n)) (zs.drop n) := by
  subst hk
  obtain ⟨a, c', hv, h1, h2, hz, h3⟩ := h
  injection hv with e1 e2 e3
  subst e1 e3
  have hl : (zs.drop n).length = zs.length - n := List.length_drop
  refine ⟨_, c - n, by rw [hl], by omega, by omega, hz.drop n, ?_⟩
  rcases h3 with ⟨h3, _⟩ | ⟨g', o', ha, h3⟩
  · cases h3
  · injection ha with ha
    injection ha with e1 e2 e3
    subst e1 e2
    refine .inr ⟨g, o + n, rfl, fun hne => ?_⟩
    obtain ⟨cap, ys, hm, h4, h5⟩ := h3 (by intro e; subst e; simp at hne)
    refine ⟨cap, ys, hm, by omega, ?_⟩
    rw [hl]
    conv => lhs; rw [h5]
    rw [List.drop_take, List.drop_drop]
theorem Pc.empty (L : List Rw) (g o c : Nat) (hc : c ≤ maxLen) : Pc L (.slice (some ⟨g, o, none⟩) 0 c) [] := ⟨_, c, rfl, Nat.zero_le _, hc, Byts.nil, .inr ⟨g, o, rfl, fun h => absurd rfl h⟩⟩

set_option maxHeartbeats 800000 in
theorem take_no (W0 : Base) (w : World) (r : Nat) (v : Value) (bad : Bool) (L : List Rw) (zs : List Int) (n : Int) (h : Own W0 w (rowR r v bad :: L)) (hp : Pc L v zs) (hn : (zs.length : Int) < n) :
    Calls Tryz.prog 95 #[.pointer (some ⟨r, 0, none⟩), .int .i64 n] w fun e w' => e = .returned (.tuple #[.slice none 0 0, .bool false]) ∧ Own W0 w' (rowR r (.slice none 0 0) true :: L) := by
  obtain ⟨a, c, rfl, _⟩ := hp
  obtain ⟨c0, c1, f0, f1⟩ := reader_cells h
  have H := Lib.hid h
  clear h
  go_enter Tryz.func95, Tryz.ntmps95
  go_wp2_with fail
  refine (spoil_any W0 w r _ bad L H.out).mono ?_
  rintro e w1 ⟨rfl, hO⟩
  have HO := Lib.hid hO
  clear hO c0 c1 f0 f1
  go_wp2_with fail
  go_ret2
  exact ⟨rfl, HO.out⟩
set_option maxHeartbeats 1600000 in
theorem take_yes (W0 : Base) (w : World) (r : Nat) (v : Value) (bad : Bool) (L : List Rw) (zs : List Int) (n : Nat) (h : Own W0 w (rowR r v bad :: L)) (hp : Pc L v zs) (hn : n ≤ zs.length) :
    Calls Tryz.prog 95 #[.pointer (some ⟨r, 0, none⟩), .int .i64 (n : Int)] w fun e w' => ∃ v1 v2, e = .returned (.tuple #[v1, .bool true]) ∧ Own W0 w' (rowR r v2 bad :: L) ∧ Pc L v1 (zs.take n) ∧ Pc L v2 (zs.drop n) := by
  have Hp := Lib.hid hp
  obtain ⟨a, c, rfl, hzc, hcm, _, h3⟩ := hp
  unfold maxLen at hcm
  obtain ⟨c0, c1, f0, f1⟩ := reader_cells h
  rcases h3 with ⟨rfl, rfl⟩ | ⟨g, o, rfl, _⟩
  · have hz : zs = [] := List.eq_nil_of_length_eq_zero (by omega)
    subst hz
    obtain rfl : n = 0 := by simpa using hn
    have HN := Lib.hid (reader_set0 h (.slice none 0 0))
    clear h hn
    go_enter Tryz.func95, Tryz.ntmps95
    go_wp2_with fail
    go_ret2
    exact ⟨_, _, rfl, HN.out, Pc.nil L, Pc.nil L⟩
  · by_cases hcn : c = n
    · subst hcn
      have hzn : zs.length = c := by omega
      have hd : zs.drop c = [] := List.drop_of_length_le (by omega)
      have HN := Lib.hid (reader_set0 h (.slice (some ⟨g, o, none⟩) 0 0))
      have Hd := Lib.hid hd
      have Hzn := Lib.hid hzn
      clear h hd hzn
      go_enter Tryz.func95, Tryz.ntmps95
      go_wp2_with fail
      go_ret2
      have hp1 := Hp.out.head c (by omega)
      exact ⟨_, _, rfl, HN.out, hp1, by rw [Hd.out]; exact Pc.empty L g o 0 (Nat.zero_le _)⟩
    · have HN := Lib.hid (reader_set0 h (.slice (some ⟨g, o + n, none⟩) (zs.length - n) (c - n)))
      clear h
      go_enter Tryz.func95, Tryz.ntmps95
      go_wp2_with fail
      go_ret2
      exact ⟨_, _, rfl, HN.out, Hp.out.head n hn, Hp.out.rest n _ hn rfl⟩

/-- The number that four bytes are. -/
def num4 (zs : List Int) : Int := zs.getD 0 0 + 256 * zs.getD 1 0 + 65536 * zs.getD 2 0 + 16777216 * zs.getD 3 0
theorem num4_bounds (zs : List Int) (h : Byts zs) : 0 ≤ num4 zs ∧ num4 zs < 4294967296 := by
  have hb : ∀ i, 0 ≤ zs.getD i 0 ∧ zs.getD i 0 < 256 := by
    intro i
    rw [List.getD_eq_getElem?_getD]
    cases hi : zs[i]? with
    | none => exact ⟨by decide, by decide⟩
    | some z => exact h z (List.mem_of_getElem? hi)
  have h0 := hb 0; have h1 := hb 1; have h2 := hb 2; have h3 := hb 3
  unfold num4
  omega
theorem num4_take (zs : List Int) (h : 4 ≤ zs.length) : num4 (zs.take 4) = num4 zs := by
  unfold num4
  simp [List.getD_eq_getElem?_getD, List.getElem?_take]

theorem i64_or_nat (a b : Nat) (ha : a < 4611686018427387904) (hb : b < 4611686018427387904) : bits .or .i64 (a : Int) (b : Int) = ((a ||| b : Nat) : Int) := by
  have hx : a ||| b < 2 ^ 62 := Nat.or_lt_two_pow (by omega) (by omega)
  have h1 : (BitVec.ofInt 64 (a : Int)).toNat = a := by
    rw [BitVec.ofInt_natCast, BitVec.toNat_ofNat]; exact Nat.mod_eq_of_lt (by omega)
  have h2 : (BitVec.ofInt 64 (b : Int)).toNat = b := by
    rw [BitVec.ofInt_natCast, BitVec.toNat_ofNat]; exact Nat.mod_eq_of_lt (by omega)
  show IntKind.i64.wrap ((BitVec.ofInt 64 (a : Int) ||| BitVec.ofInt 64 (b : Int)).toNat : Int) = _
  rw [BitVec.toNat_or, h1, h2, IntKind.wrap_i64]
  omega
theorem or_join (i : Nat) (m : Nat) (hm : m = 2 ^ i) (x y : Int) (h0 : 0 ≤ x) (h1 : x < (m : Int)) (h2 : 0 ≤ y) (h3 : y < 256) (h4 : (m : Int) ≤ 16777216) : bits .or .i64 x (y * (m : Int)) = x + y * (m : Int) := by
  obtain ⟨X, rfl⟩ := Int.eq_ofNat_of_zero_le h0
  obtain ⟨Y, rfl⟩ := Int.eq_ofNat_of_zero_le h2
  have hY : Y * m ≤ 256 * m := Nat.mul_le_mul_right _ (by omega)
  rw [show ((Y : Int) * (m : Int)) = ((Y * m : Nat) : Int) from by simp, i64_or_nat X (Y * m) (by omega) (by omega), Nat.or_comm, nat_join i (Y * m) X (by rw [hm]; exact Nat.mul_mod_left _ _) (by omega)]
  omega
theorem or_four (z0 z1 z2 z3 : Int) (b0 : 0 ≤ z0 ∧ z0 < 256) (b1 : 0 ≤ z1 ∧ z1 < 256) (b2 : 0 ≤ z2 ∧ z2 < 256) (b3 : 0 ≤ z3 ∧ z3 < 256) :
    bits .or .i64 (bits .or .i64 (bits .or .i64 z0 (z1 * 256)) (z2 * 65536)) (z3 * 16777216) = num4 [z0, z1, z2, z3] := by
  have e1 := or_join 8 256 rfl z0 z1 b0.1 (by omega) b1.1 b1.2 (by decide)
  have e2 := or_join 16 65536 rfl (z0 + z1 * 256) z2 (by omega) (by omega) b2.1 b2.2 (by decide)
  have e3 := or_join 24 16777216 rfl (z0 + z1 * 256 + z2 * 65536) z3 (by omega) (by omega) b3.1 b3.2 (by decide)
  simp only [Int.cast_ofNat_Int] at e1 e2 e3
  rw [e1, e2, e3]
  simp [num4]
  omega

set_option maxHeartbeats 1600000 in
theorem number_short (W0 : Base) (w : World) (r : Nat) (v : Value) (bad : Bool) (L : List Rw) (zs : List Int) (most : Int) (h : Own W0 w (rowR r v bad :: L)) (hp : Pc L v zs) (hn : zs.length < 4) :
    Calls Tryz.prog 72 #[.pointer (some ⟨r, 0, none⟩), .int .i64 most] w fun e w' => e = .returned (.tuple #[.int .i64 0, .bool false]) ∧ Own W0 w' (rowR r (.slice none 0 0) true :: L) := by
  have Hp := Lib.hid hp
  have H := Lib.hid h
  clear h hp
  go_enter Tryz.func72, Tryz.ntmps72
  go_wp2_with fail
  refine (take_no W0 w r v bad L zs 4 H.out Hp.out (by omega)).mono ?_
  rintro e w1 ⟨rfl, hO⟩
  have HO := Lib.hid hO
  clear hO
  go_wp2_with fail
  go_ret2
  exact ⟨rfl, HO.out⟩
set_option maxHeartbeats 1600000 in
theorem number_yes (W0 : Base) (w : World) (r : Nat) (v : Value) (bad : Bool) (L : List Rw) (zs : List Int) (most : Int) (h : Own W0 w (rowR r v bad :: L)) (hp : Pc L v zs) (hn : 4 ≤ zs.length) (hm : num4 zs ≤ most) :
    Calls Tryz.prog 72 #[.pointer (some ⟨r, 0, none⟩), .int .i64 most] w fun e w' => ∃ v', e = .returned (.tuple #[.int .i64 (num4 zs), .bool true]) ∧ Own W0 w' (rowR r v' bad :: L) ∧ Pc L v' (zs.drop 4) := by
  have hz4 := num4_take zs hn
  have hnb := num4_bounds zs hp.byts
  obtain ⟨n, hn4⟩ : ∃ n, num4 zs = n := ⟨_, rfl⟩
  rw [hn4] at hm hz4 hnb ⊢
  have Hz4 := Lib.hid hz4
  clear hn4 hz4
  have Hp := Lib.hid hp
  have H := Lib.hid h
  clear h hp
  go_enter Tryz.func72, Tryz.ntmps72
  go_wp2_with fail
  refine (take_yes W0 w r v bad L zs 4 H.out Hp.out hn).mono ?_
  rintro e w1 ⟨v1, v2, rfl, hO, hp1, hp2⟩
  have HO := Lib.hid hO
  have Hp2 := Lib.hid hp2
  obtain ⟨g, o, c, rfl, _, _, hc⟩ := (hp1.by hO.tail).cells (by rw [List.length_take]; omega)
  have hl4 : (zs.take 4).length = 4 := by rw [List.length_take]; omega
  have hby := hp1.byts
  generalize zs.take 4 = ys at *
  obtain ⟨z0, z1, z2, z3, rfl⟩ : ∃ z0 z1 z2 z3, ys = [z0, z1, z2, z3] := by
    match ys, hl4 with
    | [a, b, c, d], _ => exact ⟨a, b, c, d, rfl⟩
  have k0 := hc 0 (by simp)
  have k1 := hc 1 (by simp)
  have k2 := hc 2 (by simp)
  have k3 := hc 3 (by simp)
  simp only [List.getElem_cons_zero, List.getElem_cons_succ, Nat.add_zero] at k0 k1 k2 k3
  have b0 := hby z0 (by simp)
  have b1 := hby z1 (by simp)
  have b2 := hby z2 (by simp)
  have b3 := hby z3 (by simp)
  clear hO hp1 hp2 hc hby
  clear hl4
  go_wp2_with fail
  go_quiet (fail)
  rw [or_four z0 z1 z2 z3 b0 b1 b2 b3, Hz4.out]
  clear k0 k1 k2 k3 b0 b1 b2 b3
  go_wp2_with fail
  go_ret2
  exact ⟨_, rfl, HO.out.drewN, Hp2.out⟩
set_option maxHeartbeats 1600000 in
theorem number_big (W0 : Base) (w : World) (r : Nat) (v : Value) (bad : Bool) (L : List Rw) (zs : List Int) (most : Int) (h : Own W0 w (rowR r v bad :: L)) (hp : Pc L v zs) (hn : 4 ≤ zs.length) (hm : most < num4 zs) :
    Calls Tryz.prog 72 #[.pointer (some ⟨r, 0, none⟩), .int .i64 most] w fun e w' => e = .returned (.tuple #[.int .i64 0, .bool false]) ∧ Own W0 w' (rowR r (.slice none 0 0) true :: L) := by
  have hz4 := num4_take zs hn
  have hnb := num4_bounds zs hp.byts
  obtain ⟨n, hn4⟩ : ∃ n, num4 zs = n := ⟨_, rfl⟩
  rw [hn4] at hm hz4 hnb
  have Hz4 := Lib.hid hz4
  clear hn4 hz4
  have Hp := Lib.hid hp
  have H := Lib.hid h
  clear h hp
  go_enter Tryz.func72, Tryz.ntmps72
  go_wp2_with fail
  refine (take_yes W0 w r v bad L zs 4 H.out Hp.out hn).mono ?_
  rintro e w1 ⟨v1, v2, rfl, hO, hp1, hp2⟩
  have HO := Lib.hid hO
  obtain ⟨g, o, c, rfl, _, _, hc⟩ := (hp1.by hO.tail).cells (by rw [List.length_take]; omega)
  have hl4 : (zs.take 4).length = 4 := by rw [List.length_take]; omega
  have hby := hp1.byts
  generalize zs.take 4 = ys at *
  obtain ⟨z0, z1, z2, z3, rfl⟩ : ∃ z0 z1 z2 z3, ys = [z0, z1, z2, z3] := by
    match ys, hl4 with
    | [a, b, c, d], _ => exact ⟨a, b, c, d, rfl⟩
  have k0 := hc 0 (by simp)
  have k1 := hc 1 (by simp)
  have k2 := hc 2 (by simp)
  have k3 := hc 3 (by simp)
  simp only [List.getElem_cons_zero, List.getElem_cons_succ, Nat.add_zero] at k0 k1 k2 k3
  have b0 := hby z0 (by simp)
  have b1 := hby z1 (by simp)
  have b2 := hby z2 (by simp)
  have b3 := hby z3 (by simp)
  clear hO hp1 hp2 hc hby
  clear hl4
  go_wp2_with fail
  go_quiet (fail)
  rw [or_four z0 z1 z2 z3 b0 b1 b2 b3, Hz4.out]
  clear k0 k1 k2 k3 b0 b1 b2 b3
  go_wp2_with fail
  refine (spoil_any W0 _ r _ bad L HO.out.drewN).mono ?_
  rintro e w2 ⟨rfl, hO2⟩
  have HO2 := Lib.hid hO2
  clear hO2
  go_wp2_with fail
  go_ret2
  exact ⟨rfl, HO2.out⟩

/-- Is there a part that is as many bytes as it says, at most so many? -/
def isSized (zs : List Int) (most : Int) : Prop := 4 ≤ zs.length ∧ num4 zs ≤ most ∧ num4 zs ≤ (zs.length : Int) - 4
def bodyOf (zs : List Int) : List Int := (zs.drop 4).take (num4 zs).toNat
def restOf (zs : List Int) : List Int := (zs.drop 4).drop (num4 zs).toNat

set_option maxHeartbeats 1600000 in
theorem sized_yes (W0 : Base) (w : World) (r : Nat) (v : Value) (bad : Bool) (L : List Rw) (zs : List Int) (most : Int) (h : Own W0 w (rowR r v bad :: L)) (hp : Pc L v zs) (hs : isSized zs most) :
    Calls Tryz.prog 73 #[.pointer (some ⟨r, 0, none⟩), .int .i64 most] w fun e w' => ∃ v1 v2, e = .returned (.tuple #[v1, .bool true]) ∧ Own W0 w' (rowR r v2 bad :: L) ∧ Pc L v1 (bodyOf zs) ∧ Pc L v2 (restOf zs) := by
  have Hp := Lib.hid hp
  have H := Lib.hid h
  obtain ⟨s1, s2, s3⟩ := hs
  have hb := num4_bounds zs hp.byts
  obtain ⟨n, hn⟩ : ∃ n : Nat, num4 zs = n := ⟨(num4 zs).toNat, by omega⟩
  unfold bodyOf restOf
  rw [hn] at s2 s3 hb ⊢
  rw [Int.toNat_natCast]
  have Hn := Lib.hid hn
  clear h hp hn
  go_enter Tryz.func73, Tryz.ntmps73
  go_wp2_with fail
  refine (number_yes W0 w r v bad L zs most H.out Hp.out s1 (by rw [Hn.out]; exact s2)).mono ?_
  rintro e w1 ⟨v1, rfl, hO, hp1⟩
  rw [Hn.out]
  have HO := Lib.hid hO
  have Hp1 := Lib.hid hp1
  clear hO hp1
  go_wp2_with fail
  refine (take_yes W0 w1 r v1 bad L _ n HO.out Hp1.out (by rw [List.length_drop]; omega)).mono ?_
  rintro e w2 ⟨v2, v3, rfl, hO2, hp2, hp3⟩
  have HO2 := Lib.hid hO2
  have Hp2 := Lib.hid hp2
  have Hp3 := Lib.hid hp3
  obtain ⟨a2, k2, c2, rfl⟩ := hp2.form
  clear hO2 hp2 hp3
  go_wp2_with fail
  go_ret2
  exact ⟨_, _, rfl, HO2.out, Hp2.out, Hp3.out⟩
set_option maxHeartbeats 1600000 in
theorem sized_no (W0 : Base) (w : World) (r : Nat) (v : Value) (bad : Bool) (L : List Rw) (zs : List Int) (most : Int) (h : Own W0 w (rowR r v bad :: L)) (hp : Pc L v zs) (hs : ¬ isSized zs most) :
    Calls Tryz.prog 73 #[.pointer (some ⟨r, 0, none⟩), .int .i64 most] w fun e w' => e = .returned (.tuple #[.slice none 0 0, .bool false]) ∧ Own W0 w' (rowR r (.slice none 0 0) true :: L) := by
  have Hp := Lib.hid hp
  have H := Lib.hid h
  by_cases s1 : 4 ≤ zs.length ∧ num4 zs ≤ most
  · have s3 : ¬ num4 zs ≤ (zs.length : Int) - 4 := fun s3 => hs ⟨s1.1, s1.2, s3⟩
    have S := Lib.hid s1
    obtain ⟨n, hn⟩ : ∃ n, num4 zs = n := ⟨_, rfl⟩
    rw [hn] at s3
    have Hn := Lib.hid hn
    have hl : ((zs.drop 4).length : Int) < n := by rw [List.length_drop]; have := s1.1; omega
    have Hl := Lib.hid hl
    clear h hp hn hl s1 s3 hs
    go_enter Tryz.func73, Tryz.ntmps73
    go_wp2_with fail
    refine (number_yes W0 w r v bad L zs most H.out Hp.out S.out.1 S.out.2).mono ?_
    rintro e w1 ⟨v1, rfl, hO, hp1⟩
    rw [Hn.out]
    have HO := Lib.hid hO
    have Hp1 := Lib.hid hp1
    clear hO hp1
    go_wp2_with fail
    refine (take_no W0 w1 r v1 bad L _ n HO.out Hp1.out Hl.out).mono ?_
    rintro e w2 ⟨rfl, hO2⟩
    have HO2 := Lib.hid hO2
    clear hO2
    go_wp2_with fail
    go_ret2
    exact ⟨rfl, HO2.out⟩
  · have hno : Calls Tryz.prog 72 #[.pointer (some ⟨r, 0, none⟩), .int .i64 most] w fun e w' => e = .returned (.tuple #[.int .i64 0, .bool false]) ∧ Own W0 w' (rowR r (.slice none 0 0) true :: L) := by
      by_cases s2 : 4 ≤ zs.length
      · exact number_big W0 w r v bad L zs most h hp s2 (by have : ¬ num4 zs ≤ most := fun h => s1 ⟨s2, h⟩; omega)
      · exact number_short W0 w r v bad L zs most h hp (by omega)
    have Hno := Lib.hid hno
    clear h hp s1 hs hno
    go_enter Tryz.func73, Tryz.ntmps73
    go_wp2_with fail
    refine Hno.out.mono ?_
    rintro e w1 ⟨rfl, hO⟩
    have HO := Lib.hid hO
    clear hO
    go_wp2_with fail
    go_ret2
    exact ⟨rfl, HO.out⟩

theorem bodyOf_length (zs : List Int) (most : Int) (h : isSized zs most) (hz : Byts zs) : ((bodyOf zs).length : Int) = num4 zs := by
  obtain ⟨h1, _, h3⟩ := h
  have := num4_bounds zs hz
  unfold bodyOf
  rw [List.length_take, List.length_drop]
  omega

set_option maxHeartbeats 1600000 in
theorem rnum_any (W0 : Base) (w : World) (r : Nat) (v : Value) (bad : Bool) (L : List Rw) (zs : List Int) (most : Int) (h : Own W0 w (rowR r v bad :: L)) (hp : Pc L v zs) (hs : 4 ≤ zs.length ∧ num4 zs ≤ most) :
    Calls Tryz.prog 44 #[.pointer (some ⟨r, 0, none⟩), .int .i64 most] w fun e w' => ∃ v', e = .returned (.int .i64 (num4 zs)) ∧ Own W0 w' (rowR r v' bad :: L) ∧ Pc L v' (zs.drop 4) := by
  have Hc := Lib.hid (number_yes W0 w r v bad L zs most h hp hs.1 hs.2)
  clear h hp hs
  go_enter Tryz.func44, Tryz.ntmps44
  go_wp2_with fail
  refine Hc.out.mono ?_
  rintro e w1 ⟨v1, rfl, hO, hp1⟩
  have HO := Lib.hid hO
  have Hp1 := Lib.hid hp1
  clear hO hp1
  go_wp2_with fail
  go_ret
  exact ⟨_, rfl, HO.out, Hp1.out⟩
theorem number_no (W0 : Base) (w : World) (r : Nat) (v : Value) (bad : Bool) (L : List Rw) (zs : List Int) (most : Int) (h : Own W0 w (rowR r v bad :: L)) (hp : Pc L v zs) (hs : ¬ (4 ≤ zs.length ∧ num4 zs ≤ most)) :
    Calls Tryz.prog 72 #[.pointer (some ⟨r, 0, none⟩), .int .i64 most] w fun e w' => e = .returned (.tuple #[.int .i64 0, .bool false]) ∧ Own W0 w' (rowR r (.slice none 0 0) true :: L) := by
  by_cases s2 : 4 ≤ zs.length
  · exact number_big W0 w r v bad L zs most h hp s2 (by have : ¬ num4 zs ≤ most := fun h => hs ⟨s2, h⟩; omega)
  · exact number_short W0 w r v bad L zs most h hp (by omega)
set_option maxHeartbeats 1600000 in
theorem rnum_no (W0 : Base) (w : World) (r : Nat) (v : Value) (bad : Bool) (L : List Rw) (zs : List Int) (most : Int) (h : Own W0 w (rowR r v bad :: L)) (hp : Pc L v zs) (hs : ¬ (4 ≤ zs.length ∧ num4 zs ≤ most)) :
    Calls Tryz.prog 44 #[.pointer (some ⟨r, 0, none⟩), .int .i64 most] w fun e w' => e = .returned (.int .i64 0) ∧ Own W0 w' (rowR r (.slice none 0 0) true :: L) := by
  have Hc := Lib.hid (number_no W0 w r v bad L zs most h hp hs)
  clear h hp hs
  go_enter Tryz.func44, Tryz.ntmps44
  go_wp2_with fail
  refine Hc.out.mono ?_
  rintro e w1 ⟨rfl, hO⟩
  have HO := Lib.hid hO
  clear hO
  go_wp2_with fail
  go_ret
  exact ⟨rfl, HO.out⟩

set_option maxHeartbeats 1600000 in
theorem rraw_yes (W0 : Base) (w : World) (r : Nat) (v : Value) (bad : Bool) (L : List Rw) (zs : List Int) (most : Int) (h : Own W0 w (rowR r v bad :: L)) (hp : Pc L v zs) (hs : isSized zs most) :
    Calls Tryz.prog 46 #[.pointer (some ⟨r, 0, none⟩), .int .i64 most] w fun e w' => ∃ v1 v2, e = .returned v1 ∧ Own W0 w' (rowU v1 (bodyOf zs) :: rowR r v2 bad :: L) ∧ Pc L v2 (restOf zs) := by
  have hl := bodyOf_length zs most hs hp.byts
  have hb := num4_bounds zs hp.byts
  have Hl := Lib.hid (show (bodyOf zs).length ≤ 140737488355328 by omega)
  have Hc := Lib.hid (sized_yes W0 w r v bad L zs most h hp hs)
  clear h hp hs hl hb
  go_enter Tryz.func46, Tryz.ntmps46
  go_wp2_with fail
  refine Hc.out.mono ?_
  rintro e w1 ⟨v1, v2, rfl, hO, hp1, hp2⟩
  have HO := Lib.hid hO
  have Hp1 := Lib.hid hp1
  have Hp2 := Lib.hid hp2
  obtain ⟨a1, k1, c1, rfl⟩ := hp1.form
  clear hO hp1 hp2
  go_wp2_with fail
  refine (clone_any _ (bodyOf zs) w1 (Hp1.out.by HO.out.tail) Hl.out).mono ?_
  rintro e w2 ⟨v3, rfl, hO2⟩
  have HO2 := Lib.hid (HO.out.join hO2)
  clear hO2
  go_wp2_with fail
  go_ret
  exact ⟨_, _, rfl, HO2.out, Hp2.out⟩
set_option maxHeartbeats 1600000 in
theorem rraw_no (W0 : Base) (w : World) (r : Nat) (v : Value) (bad : Bool) (L : List Rw) (zs : List Int) (most : Int) (h : Own W0 w (rowR r v bad :: L)) (hp : Pc L v zs) (hs : ¬ isSized zs most) :
    Calls Tryz.prog 46 #[.pointer (some ⟨r, 0, none⟩), .int .i64 most] w fun e w' => e = .returned (.slice none 0 0) ∧ Own W0 w' (rowR r (.slice none 0 0) true :: L) := by
  have Hc := Lib.hid (sized_no W0 w r v bad L zs most h hp hs)
  clear h hp hs
  go_enter Tryz.func46, Tryz.ntmps46
  go_wp2_with fail
  refine Hc.out.mono ?_
  rintro e w1 ⟨rfl, hO⟩
  have HO := Lib.hid hO
  clear hO
  go_wp2_with fail
  refine (clone_nil w1).mono ?_
  rintro e w2 ⟨rfl, rfl⟩
  go_wp2_with fail
  go_ret
  exact ⟨rfl, HO.out⟩

theorem By.toStr {w : World} {v : Value} {zs : List Int} (h : By w v zs) : (convert 36 9 v).run Tryz.prog w = .ok (.string (strOfNums zs)) w := by
  by_cases hn : 0 < zs.length
  · obtain ⟨g, o, c, rfl, _, _, hc⟩ := h.cells hn
    refine run_convert_bytes_arg w 36 5 Tryz.underlying36 Tryz.underlying5 g o zs.length c zs rfl (fun i hi => ?_) 9 Tryz.underlying9
    rw [hc i hi, List.getD_eq_getElem?_getD, List.getElem?_eq_getElem hi]
    rfl
  · have hz : zs = [] := List.eq_nil_of_length_eq_zero (by omega)
    subst hz
    rcases h.1 with ⟨rfl, _, _⟩ | ⟨ad, c, rfl, _⟩
    · exact run_convert_bytes_nil w 36 5 Tryz.underlying36 Tryz.underlying5 0 0 9 Tryz.underlying9
    · have := run_convert_bytes_back w 36 9 5 ad c [] Tryz.underlying36 Tryz.underlying5 Tryz.underlying9 (fun j hj => by simp at hj)
      exact this
set_option maxHeartbeats 1600000 in
theorem rtext_yes (W0 : Base) (w : World) (r : Nat) (v : Value) (bad : Bool) (L : List Rw) (zs : List Int) (most : Int) (h : Own W0 w (rowR r v bad :: L)) (hp : Pc L v zs) (hs : isSized zs most) :
    Calls Tryz.prog 45 #[.pointer (some ⟨r, 0, none⟩), .int .i64 most] w fun e w' => ∃ v2, e = .returned (.string (strOfNums (bodyOf zs))) ∧ Own W0 w' (rowR r v2 bad :: L) ∧ Pc L v2 (restOf zs) := by
  have Hc := Lib.hid (sized_yes W0 w r v bad L zs most h hp hs)
  clear h hp hs
  go_enter Tryz.func45, Tryz.ntmps45
  go_wp2_with fail
  refine Hc.out.mono ?_
  rintro e w1 ⟨v1, v2, rfl, hO, hp1, hp2⟩
  have HO := Lib.hid hO
  have Hp2 := Lib.hid hp2
  have hcv := (hp1.by hO.tail).toStr
  obtain ⟨a1, k1, c1, rfl⟩ := hp1.form
  clear hO hp1 hp2
  go_wp2_with fail
  go_ret
  exact ⟨_, rfl, HO.out, Hp2.out⟩

set_option maxHeartbeats 1600000 in
theorem rlist_yes (W0 : Base) (w : World) (r : Nat) (v : Value) (bad : Bool) (L : List Rw) (zs : List Int) (h : Own W0 w (rowR r v bad :: L)) (hp : Pc L v zs) (hs : isSized zs 16777216) :
    Calls Tryz.prog 54 #[.pointer (some ⟨r, 0, none⟩)] w fun e w' => ∃ r2 v1 v2, e = .returned (.pointer (some ⟨r2, 0, none⟩)) ∧ Own W0 w' (rowR r2 v1 false :: rowR r v2 bad :: L) ∧ Pc L v1 (bodyOf zs) ∧ Pc L v2 (restOf zs) := by
  have Hc := Lib.hid (sized_yes W0 w r v bad L zs 16777216 h hp hs)
  have hzr := zero_reader
  clear h hp hs
  go_enter Tryz.func54, Tryz.ntmps54
  go_wp2_with fail
  refine Hc.out.mono ?_
  rintro e w1 ⟨v1, v2, rfl, hO, hp1, hp2⟩
  have HO := Lib.hid hO
  have Hp1 := Lib.hid hp1
  have Hp2 := Lib.hid hp2
  obtain ⟨a1, k1, c1, rfl⟩ := hp1.form
  clear hO hp1 hp2
  go_wp2_with fail
  go_ret
  exact ⟨_, _, _, rfl, HO.out.made 125 2 #[.slice a1 k1 c1, .bool false] 1 rfl (by unfold maxLen; decide), Hp1.out, Hp2.out⟩

set_option maxHeartbeats 1600000 in
theorem good_any (W0 : Base) (w : World) (r : Nat) (v : Value) (bad : Bool) (L : List Rw) (h : Own W0 w (rowR r v bad :: L)) :
    Calls Tryz.prog 78 #[.pointer (some ⟨r, 0, none⟩)] w fun e w' => e = .returned (.bool (!bad)) ∧ w = w' := by
  obtain ⟨c0, c1, f0, f1⟩ := reader_cells h
  clear h
  go_enter Tryz.func78, Tryz.ntmps78
  go_wp2_with fail
  go_ret
  exact ⟨rfl, rfl⟩
set_option maxHeartbeats 1600000 in
theorem more_any (W0 : Base) (w : World) (r : Nat) (v : Value) (bad : Bool) (L : List Rw) (zs : List Int) (h : Own W0 w (rowR r v bad :: L)) (hp : Pc L v zs) :
    Calls Tryz.prog 43 #[.pointer (some ⟨r, 0, none⟩)] w fun e w' => e = .returned (.bool (decide (0 < zs.length))) ∧ w = w' := by
  obtain ⟨c0, c1, f0, f1⟩ := reader_cells h
  obtain ⟨a, c, rfl, _⟩ := hp
  clear h
  go_enter Tryz.func43, Tryz.ntmps43
  go_wp2_with fail
  go_ret
  exact ⟨by simp, rfl⟩
set_option maxHeartbeats 1600000 in
theorem done_any (W0 : Base) (w : World) (r : Nat) (v : Value) (bad : Bool) (L : List Rw) (zs : List Int) (h : Own W0 w (rowR r v bad :: L)) (hp : Pc L v zs) :
    Calls Tryz.prog 74 #[.pointer (some ⟨r, 0, none⟩)] w fun e w' => e = .returned (.bool (!bad && decide (zs.length = 0))) ∧ w = w' := by
  have Hp := Lib.hid hp
  have H := Lib.hid h
  clear h hp
  have e1 : (!decide (0 < zs.length)) = decide (zs.length = 0) := by
    rw [Bool.eq_iff_iff]; simp
  have HE := Lib.hid e1
  clear e1
  cases bad
  · go_enter Tryz.func74, Tryz.ntmps74
    go_wp2_with (first
      | (go_at_call 78; refine (good_any W0 w r v _ L H.out).mono ?_; rintro e w' ⟨rfl, rfl⟩)
      | (go_at_call 43; refine (more_any W0 w r v _ L zs H.out Hp.out).mono ?_; rintro e w' ⟨rfl, rfl⟩))
    go_ret
    exact ⟨by rw [← HE.out]; simp, rfl⟩
  · go_enter Tryz.func74, Tryz.ntmps74
    go_wp2_with (first
      | (go_at_call 78; refine (good_any W0 w r v _ L H.out).mono ?_; rintro e w' ⟨rfl, rfl⟩)
      | (go_at_call 43; refine (more_any W0 w r v _ L zs H.out Hp.out).mono ?_; rintro e w' ⟨rfl, rfl⟩))
    go_ret
    exact ⟨rfl, rfl⟩
set_option maxHeartbeats 1600000 in
theorem err_any (W0 : Base) (w : World) (r : Nat) (v : Value) (bad : Bool) (L : List Rw) (zs : List Int) (h : Own W0 w (rowR r v bad :: L)) (hp : Pc L v zs) :
    Calls Tryz.prog 47 #[.pointer (some ⟨r, 0, none⟩)] w fun e w' => e = .returned (.int .i64 (if (!bad && decide (zs.length = 0)) = true then 0 else 4)) ∧ w = w' := by
  have Hc := Lib.hid (done_any W0 w r v bad L zs h hp)
  clear h hp
  cases hb : (!bad && decide (zs.length = 0))
  · rw [hb] at Hc
    clear hb
    go_enter Tryz.func47, Tryz.ntmps47
    go_wp2_with fail
    refine Hc.out.mono ?_
    rintro e w' ⟨rfl, rfl⟩
    go_wp2_with fail
    go_ret
    exact ⟨rfl, rfl⟩
  · rw [hb] at Hc
    clear hb
    go_enter Tryz.func47, Tryz.ntmps47
    go_wp2_with fail
    refine Hc.out.mono ?_
    rintro e w' ⟨rfl, rfl⟩
    go_wp2_with fail
    go_ret
    exact ⟨rfl, rfl⟩
end Go.Proofs.YtdjoahhcmkedhaaGreatDoor
end

/- grow: what comes new. -/
section
namespace Go.Proofs.YtdjoahhcmkedhaaGreatDoor
open Go.RowKit
open Go.ChangeMaps (setBlock)
set_option linter.unusedVariables false
set_option linter.unusedSimpArgs false
set_option maxRecDepth 100000

theorem Tree.mono {S S2 : Blocks} {D D2 : Value → List Int → Prop} {t : Nat} {T : Tr} (H : Tree S D t T) (hS : ∀ b x, b ∈ t :: T.foot → (b, x) ∈ S → (b, x) ∈ S2) (hD : ∀ v zs, D v zs → D2 v zs) : Tree S2 D2 t T :=
  ⟨H.at_.mono (fun b x hb hx => hS b x hb hx) hD, H.apart, H.good⟩
theorem Tree.setNext {S : Blocks} {D : Value → List Int → Prop} {t : Nat} {T : Tr} (H : Tree S D t T) (m : Int) (hm : T.next ≤ m) : Tree (upd S t (.cells (treeCells { T with next := m }) 75)) D t { T with next := m } := by
  have ht : t ∉ T.foot := (List.nodup_cons.1 H.apart).1
  obtain ⟨o, h1, h2⟩ := H.at_.map
  refine ⟨⟨upd_same H.at_.cells _, ⟨o, upd_other (b := t) h1 (fun e => ht (e ▸ List.mem_cons_self ..)) _, h2⟩, fun p hp => ?_⟩, H.apart, ⟨H.good.keys, H.good.root, H.good.kids, fun p hp => ?_⟩⟩
  · exact (H.at_.node p hp).mono (fun b x hb hx => upd_other (b := t) hx (fun e => ht (e ▸ foot_mem hp hb)) _) (fun _ _ h => h)
  · have := H.good.low p hp
    exact ⟨this.1, this.2.imp id fun h => Int.lt_of_lt_of_le h hm⟩
theorem Tree.addN {S S2 : Blocks} {D : Value → List Int → Prop} {t N : Nat} {T : Tr} (H : Tree S D t T) {i : Int} (hi : look T.nodes i = none) (hi1 : 1 ≤ i) (hi2 : i < T.next) {n : Nd} {o : Obj} (ho : MapO KI o (put (nodesV T) i (.pointer (some ⟨n.b, 0, none⟩))))
    (hS : ∀ b x, (b, x) ∈ S → b ≠ T.bm → (b, x) ∈ S2) (hbm : (T.bm, o) ∈ S2) (hN : NodeIn (inS S2) D n) (hlow : ∀ b ∈ t :: T.foot, b < N) (hnew : ∀ b ∈ n.foot, N ≤ b) (hnd : n.foot.Nodup) (hkids : n.kids = []) : Tree S2 D t (T.setN i n) := by
  have hk : i ∉ T.nodes.map (·.1) := fun hm => by
    obtain ⟨v, hv⟩ := look_some_of_key hm
    rw [hi] at hv; cases hv
  have hP := Part.add (B := 0) ⟨H.at_, H.apart, fun b _ => Nat.zero_le b⟩ hk ho hS hbm hN hlow (fun b hb => ⟨hnew b hb, Nat.zero_le b⟩) hnd
  have hl : ∀ j m, look T.nodes j = some m → ∃ m', look (T.setN i n).nodes j = some m' := fun j m hj => by
    unfold Tr.setN; rw [look_put]
    split
    · exact ⟨_, rfl⟩
    · exact ⟨m, hj⟩
  have hmem : ∀ p ∈ (T.setN i n).nodes, p ∈ T.nodes ∨ p = (i, n) := fun p hp => by
    unfold Tr.setN at hp; rw [put_new hk] at hp
    rcases List.mem_append.1 hp with h | h
    · exact .inl h
    · exact .inr (List.mem_singleton.1 h)
  refine ⟨hP.at_, hP.apart, ⟨?_, ?_, fun p hp q hq => ?_, fun p hp => ?_⟩⟩
  · unfold Tr.setN; rw [put_new hk, List.map_append]
    exact List.nodup_append.2 ⟨H.good.keys, by simp, fun a ha b hb e => by simp at hb; subst hb; exact hk (e ▸ ha)⟩
  · obtain ⟨r, k, h3, h4⟩ := H.good.root
    have hne : (1 : Int) ≠ i := fun e => by rw [← e, h3] at hi; cases hi
    refine ⟨r, k, ?_, h4⟩
    unfold Tr.setN; rw [look_put, if_neg hne]; exact h3
  · rcases hmem p hp with h | rfl
    · obtain ⟨m, hm⟩ := H.good.kids p h q hq
      exact hl _ _ hm
    · have hq' : q ∈ n.kids := hq
      rw [hkids] at hq'; cases hq'
  · rcases hmem p hp with h | rfl
    · exact H.good.low p h
    · exact ⟨hi1, .inr hi2⟩
theorem fresh_none {T : Tr} (G : Good T) (h2 : 2 ≤ T.next) : look T.nodes T.next = none := by
  cases h : look T.nodes T.next with
  | none => rfl
  | some n => rcases (G.low _ (look_mem h)).2 with h3 | h3
              · have h3 : T.next = 1 := h3; omega
              · exact absurd h3 (Int.lt_irrefl _)
abbrev opL (kind : Int) (p q : ByteArray) (v : Value) : List Value := [.int .i64 kind, .string p, .string q, v]
def mkdirT (T : Tr) (j : Int) (nd : Nd) (name : ByteArray) (n : Nd) : Tr := (({ T with next := T.next + 1 } : Tr).setN T.next n).setN j { nd with kids := put nd.kids name T.next }
/-- What becomes of memory where a tree turns: rows may be added. -/
def DoL (w0 : World) (S : Blocks) (L : List Rw) (t : Nat) (T : Tr) (w : World) (R : Tr → Prop) (r : Value) (e : Ending) (w' : World) : Prop :=
  ∃ S' L' T', e = .returned r ∧ Own ⟨w0, S'⟩ w' L' ∧ (∀ x ∈ L, x ∈ L') ∧ Tree S' (Pc L') t T' ∧ Frame S S' (t :: T.foot) (t :: T'.foot) w.heap.size ∧ R T'
theorem Tree.setC {S : Blocks} {D : Value → List Int → Prop} {t : Nat} {T : Tr} (H : Tree S D t T) : t ∉ T.foot := (List.nodup_cons.1 H.apart).1
set_option maxHeartbeats 2000000 in
theorem growDir_any {w0 w : World} {S : Blocks} {L : List Rw} {t : Nat} {T : Tr} (hO : Own ⟨w0, S⟩ w L) (H : Tree S (Pc L) t T) {j : Int} {nd : Nd} {k : Nat} (hj : look T.nodes j = some nd) (hk : nd.k = some k) (name : ByteArray)
    (p q : ByteArray) (v : Value) (hv : ∃ a n c, v = .slice a n c) (hn1 : 2 ≤ T.next) (hn2 : T.next ≤ 1000000000) :
    Calls Tryz.prog 66 #[.pointer (some ⟨t, 0, none⟩), .agg #[.pointer (some ⟨nd.b, 0, none⟩), .string name], .agg (opL 0 p q v).toArray] w
      (DoL w0 S L t T w (fun T' => ∃ n : Nd, n.er = ⟨true, [], [], 0⟩ ∧ T' = mkdirT T j nd name n) (.tuple #[])) := by
  obtain ⟨va, vn, vc, rfl⟩ := hv
  have hO2 := (hO.newB (.cells #[.pointer (some ⟨nd.b, 0, none⟩), .string name] 115)).newB (.cells #[.int .i64 0, .string p, .string q, .slice va vn vc] 38)
  rw [show (w.alloc (.cells #[.pointer (some ⟨nd.b, 0, none⟩), .string name] 115)).heap.size = w.heap.size + 1 by simp] at hO2
  obtain ⟨w2, hw2⟩ : ∃ w2, w2 = (w.alloc (.cells #[.pointer (some ⟨nd.b, 0, none⟩), .string name] 115)).alloc (.cells #[.int .i64 0, .string p, .string q, .slice va vn vc] 38) := ⟨_, rfl⟩
  rw [← hw2] at hO2
  have hsz2 : w2.heap.size = w.heap.size + 2 := by rw [hw2]; simp
  have hlow : ∀ b ∈ t :: T.foot, b < w.heap.size := fun b hb => by
    obtain ⟨x, hx⟩ := kept_in H.at_ b hb
    exact (hO.atLt hx).2
  have H2 := H.mono (D2 := Pc L) (S2 := (w.heap.size + 1, .cells #[.int .i64 0, .string p, .string q, .slice va vn vc] 38) :: (w.heap.size, .cells #[.pointer (some ⟨nd.b, 0, none⟩), .string name] 115) :: S) (fun b x _ hx => List.mem_cons_of_mem _ (List.mem_cons_of_mem _ hx)) (fun _ _ h => h)
  have ht := hlow t (List.mem_cons_self ..)
  -- the next number
  have c1 : w2.cell? ⟨t, 1, none⟩ = some (.int .i64 T.next) := (H2.at_.inWorld hO2).at0.2.1
  have fz1 : w2.frozen? ⟨t, 1, none⟩ = false := free_at (hO2.at H2.at_.cells) 1
  have k0 : w2.cell? ⟨w.heap.size + 1, 0, none⟩ = some (.int .i64 0) := by rw [hO2.cellB (List.mem_cons_self ..)]; rfl
  have hO3 := hO2.storeB H2.at_.cells 1 (.int .i64 (T.next + 1))
  have H3 := H2.setNext (T.next + 1) (by omega)
  have m0 : (w.heap.size + 1, Obj.cells #[.int .i64 0, .string p, .string q, .slice va vn vc] 38) ∈ upd ((w.heap.size + 1, .cells #[.int .i64 0, .string p, .string q, .slice va vn vc] 38) :: (w.heap.size, .cells #[.pointer (some ⟨nd.b, 0, none⟩), .string name] 115) :: S) t (.cells (treeCells { T with next := T.next + 1 }) 75) := upd_other (List.mem_cons_self ..) (by omega) _
  have m1 : (w.heap.size, Obj.cells #[.pointer (some ⟨nd.b, 0, none⟩), .string name] 115) ∈ upd ((w.heap.size + 1, .cells #[.int .i64 0, .string p, .string q, .slice va vn vc] 38) :: (w.heap.size, .cells #[.pointer (some ⟨nd.b, 0, none⟩), .string name] 115) :: S) t (.cells (treeCells { T with next := T.next + 1 }) 75) := upd_other (List.mem_cons_of_mem _ (List.mem_cons_self ..)) (by omega) _
  have hkeep3 : ∀ b x, (b, x) ∈ S → b ∉ t :: T.foot → (b, x) ∈ upd ((w.heap.size + 1, .cells #[.int .i64 0, .string p, .string q, .slice va vn vc] 38) :: (w.heap.size, .cells #[.pointer (some ⟨nd.b, 0, none⟩), .string name] 115) :: S) t (.cells (treeCells { T with next := T.next + 1 }) 75) := fun b x hb hnb => upd_other (List.mem_cons_of_mem _ (List.mem_cons_of_mem _ hb)) (fun e => hnb (e ▸ List.mem_cons_self ..)) _
  obtain ⟨w3, hw3⟩ : ∃ w3, w3 = w2.setCell ⟨t, 1, none⟩ (.int .i64 (T.next + 1)) := ⟨_, rfl⟩
  change Own ⟨w0, upd _ t (.cells (treeCells { T with next := T.next + 1 }) 75)⟩ _ L at hO3
  rw [← hw3] at hO3
  have hsz3 : w3.heap.size = w.heap.size + 2 := by rw [hw3, ← hsz2]; simp
  generalize upd ((w.heap.size + 1, Obj.cells #[.int .i64 0, .string p, .string q, .slice va vn vc] 38) :: (w.heap.size, Obj.cells #[.pointer (some ⟨nd.b, 0, none⟩), .string name] 115) :: S) t (.cells (treeCells { T with next := T.next + 1 }) 75) = S3 at *
  -- the new directory
  have hO4 := ((hO3.drew.newB (.map #[] 0)).newB (.cells #[.map (some w3.heap.size), .slice none 0 0, .int .i64 0] 86))
  rw [show (w3.drew.alloc (.map #[] 0)).heap.size = w3.heap.size + 1 by simp] at hO4
  have hnd := newDir_any w3.drew
  obtain ⟨w4, hw4⟩ : ∃ w4, w4 = (w3.drew.alloc (.map #[] 0)).alloc (.cells #[.map (some w3.heap.size), .slice none 0 0, .int .i64 0] 86) := ⟨_, rfl⟩
  change Calls Tryz.prog 30 #[] w3.drew (fun e w' => e = .returned (.pointer (some ⟨w3.heap.size + 1, 0, none⟩)) ∧ w' = (w3.drew.alloc (.map #[] 0)).alloc (.cells #[.map (some w3.heap.size), .slice none 0 0, .int .i64 0] 86)) at hnd
  rw [← hw4] at hnd
  change Own ⟨w0, (w3.heap.size + 1, _) :: (w3.heap.size, Obj.map #[] 0) :: S3⟩ ((w3.drew.alloc (.map #[] 0)).alloc (.cells #[.map (some w3.heap.size), .slice none 0 0, .int .i64 0] 86)) L at hO4
  rw [← hw4] at hO4
  rw [hsz3] at hO4 hnd
  -- it stands in the map of nodes
  obtain ⟨o1, x1, x2⟩ := H3.at_.map
  have x1' := List.mem_cons_of_mem (w.heap.size + 2 + 1, Obj.cells #[.map (some (w.heap.size + 2)), .slice none 0 0, .int .i64 0] 86) (List.mem_cons_of_mem (w.heap.size + 2, Obj.map #[] 0) x1)
  obtain ⟨o2, hup1, x3⟩ := x2.update kindsI Tryz.underlying73 (hO4.at x1') T.next (.pointer (some ⟨w.heap.size + 2 + 1, 0, none⟩))
  have hO5 := hO4.setB x1' o2
  have hbmlt : T.bm < w.heap.size := hlow _ (List.mem_cons_of_mem _ (List.mem_cons_self ..))
  have hbm3 : ({ T with next := T.next + 1 } : Tr).bm = T.bm := rfl
  have hkeep5 : ∀ b x, (b, x) ∈ S3 → b ≠ T.bm → (b, x) ∈ upd ((w.heap.size + 2 + 1, Obj.cells #[.map (some (w.heap.size + 2)), .slice none 0 0, .int .i64 0] 86) :: (w.heap.size + 2, Obj.map #[] 0) :: S3) T.bm o2 := fun b x hb hne => upd_other (List.mem_cons_of_mem _ (List.mem_cons_of_mem _ hb)) hne _
  have H5 := H3.addN (i := T.next) (n := newNd (w.heap.size + 2)) (N := w.heap.size + 2) (fresh_none H.good hn1) (by show (1 : Int) ≤ T.next; omega) (by show T.next < T.next + 1; omega) x3 hkeep5 (upd_same x1' o2) ⟨upd_other (List.mem_cons_self ..) (by show w.heap.size + 2 + 1 ≠ T.bm; omega) _, fun k2 hk2 => by
      have hk3 : w.heap.size + 2 = k2 := by injection hk2
      subst hk3
      exact ⟨.map #[] 0, upd_other (List.mem_cons_of_mem _ (List.mem_cons_self ..)) (by omega) _, MapO.empty KS⟩, (fun h => by cases h), Pc.nil L, ⟨none, 0, rfl⟩⟩
    (fun b hb => by have := hlow b hb; omega) (fun b hb => by
      have : b ∈ [w.heap.size + 2 + 1, w.heap.size + 2] := hb
      simp at this; omega) (by show ([w.heap.size + 2 + 1, w.heap.size + 2] : List Nat).Nodup; simp) rfl
  obtain ⟨w5, hw5⟩ : ∃ w5, w5 = setBlock w4 T.bm o2 := ⟨_, rfl⟩
  rw [← hw5] at hO5 hup1
  have m1' := hkeep5 _ _ m1 (by omega)
  have hkeepA : ∀ b x, (b, x) ∈ S → b ∉ t :: T.foot → (b, x) ∈ upd ((w.heap.size + 2 + 1, Obj.cells #[.map (some (w.heap.size + 2)), .slice none 0 0, .int .i64 0] 86) :: (w.heap.size + 2, Obj.map #[] 0) :: S3) T.bm o2 := fun b x hb hnb => hkeep5 b x (hkeep3 b x hb hnb) (fun e => hnb (e ▸ List.mem_cons_of_mem _ (List.mem_cons_self ..)))
  generalize upd ((w.heap.size + 2 + 1, Obj.cells #[.map (some (w.heap.size + 2)), .slice none 0 0, .int .i64 0] 86) :: (w.heap.size + 2, Obj.map #[] 0) :: S3) T.bm o2 = S5 at *
  have hO6 := hO5.drew
  -- and at its name
  have hne : j ≠ T.next := fun e => by have := (H.good.low _ (look_mem hj)).2; simp at this; omega
  have hj5 : look (({ T with next := T.next + 1 } : Tr).setN T.next (newNd (w.heap.size + 2))).nodes j = some nd := by unfold Tr.setN; rw [look_put, if_neg hne]; exact hj
  have hN5 := H5.at_.node _ (look_mem hj5)
  obtain ⟨o3, y1, y2⟩ := hN5.kid k hk
  obtain ⟨o4, hup2, y3⟩ := y2.update (w := w5.drew) kindsS Tryz.underlying84 (hO6.at y1) name (.int .i64 T.next)
  rw [put_kidsV] at y3
  have hO7 := hO6.setB y1 o4
  have H7 := H5.setKids hj5 hk y3 (fun q hq => by
    rcases mem_putk hq with rfl | hq
    · exact ⟨newNd (w.heap.size + 2), by unfold Tr.setN; rw [look_put, if_pos rfl]⟩
    · exact H5.good.kids _ (look_mem hj5) q hq)
  have hfr : Frame S (upd S5 k o4) (t :: T.foot) (t :: (mkdirT T j nd name (newNd (w.heap.size + 2))).foot) w.heap.size := by
    have hnk : T.next ∉ T.nodes.map (·.1) := fun hm => by
      obtain ⟨v, hv⟩ := look_some_of_key hm
      rw [fresh_none H.good hn1] at hv; cases hv
    have e : (mkdirT T j nd name (newNd (w.heap.size + 2))).foot = T.foot ++ [w.heap.size + 2 + 1, w.heap.size + 2] :=
      (setN_foot (n' := { nd with kids := put nd.kids name T.next }) hj5 rfl rfl).trans (foot_put (T := { T with next := T.next + 1 }) hnk)
    refine ⟨fun b x hb hnb => upd_other (hkeepA b x hb hnb) (fun e => hnb (e ▸ List.mem_cons_of_mem _ ((foot_node hj).2 k hk))) _, fun b hb => ?_⟩
    rw [e, ← List.cons_append] at hb
    rcases List.mem_append.1 hb with hb | hb
    · exact .inl hb
    · simp at hb; right; omega
  have HP := Lib.hid (show DoL w0 S L t T w (fun T' => ∃ n : Nd, n.er = ⟨true, [], [], 0⟩ ∧ T' = mkdirT T j nd name n) (.tuple #[]) (.returned (.tuple #[])) (setBlock w5.drew k o4) from ⟨_, L, _, rfl, hO7, fun _ h => h, H7, hfr, _, rfl, rfl⟩)
  have k3 : w3.cell? ⟨w.heap.size + 1, 0, none⟩ = some (.int .i64 0) := by rw [hO3.cellB m0]; rfl
  rw [hw3, hw2] at k3
  rw [hw2] at c1 fz1 k0
  have c2 : w3.drew.cell? ⟨t, 2, none⟩ = some (.map (some T.bm)) := (H3.at_.inWorld hO3.drew).at0.2.2
  have c4 : w4.cell? ⟨t, 2, none⟩ = some (.map (some T.bm)) := by rw [hO4.cellB (List.mem_cons_of_mem _ (List.mem_cons_of_mem _ H3.at_.cells))]; rfl
  have c5 : w5.cell? ⟨t, 2, none⟩ = some (.map (some T.bm)) := (H5.at_.inWorld hO5).at0.2.2
  have p0 : w5.drew.cell? ⟨w.heap.size, 0, none⟩ = some (.pointer (some ⟨nd.b, 0, none⟩)) := by rw [hO6.cellB m1']; rfl
  have p1 : w5.drew.cell? ⟨w.heap.size, 1, none⟩ = some (.string name) := by rw [hO6.cellB m1']; rfl
  have n0 : w5.drew.cell? ⟨nd.b, 0, none⟩ = some (.map (some k)) := by rw [hO6.cellB hN5.cells 0, ← hk]; rfl
  have hwr : IntKind.i64.wrap (T.next + 1) = T.next + 1 := IntWalk.i64_in _ (by omega)
  clear hO hO2 hO3 hO4 hO5 hO6 hO7 H H2 H3 H5 H7 hN5 hfr hlow hkeep3 hkeep5 hkeepA m0 m1 m1' hj hj5 hne hk x1 x1' x2 x3 y1 y2 y3 hbm3 hw4 hsz2 ht hsz3 hbmlt hw5
  have hnd' : Calls Tryz.prog 30 #[] w3.drew (fun e w' => e = .returned (.pointer (some ⟨w.heap.size + 2 + 1, 0, none⟩)) ∧ w4 = w') := hnd.mono fun e w' h => ⟨h.1, h.2.symm⟩
  clear hnd
  go_enter Tryz.func66, Tryz.ntmps66
  go_wp2_with fail
  rw [← hw2, ← hw3]
  clear hw2 hw3 k0 k3 c1 fz1
  go_region_held3 (fun w' : World => w'.cell? ⟨t, 2, none⟩ = some (.map (some T.bm))) (first | exact c2 | exact c4 | exact c5) (first | (go_at_call 30; refine hnd'.mono ?_; rintro e w' ⟨rfl, rfl⟩))
  all_goals go_wp2_with fail
  all_goals go_still_tail 8, (by kernel_rfl)
  all_goals go_wp2_with fail
  trace_state
  all_goals refine bodyPost_end (v := .tuple #[]) ?_ rfl HP.out
  all_goals simp [results, Tryz.results66, go_sem]
end Go.Proofs.YtdjoahhcmkedhaaGreatDoor
end

/- grow, of a file. -/
section
namespace Go.Proofs.YtdjoahhcmkedhaaGreatDoor
open Go.RowKit
open Go.ChangeMaps (setBlock)
set_option linter.unusedVariables false
set_option linter.unusedSimpArgs false
set_option maxRecDepth 100000

theorem Frame.trans {S S2 S3 : Blocks} {F F2 F3 : List Nat} {n m : Nat} (h : Frame S S2 F F2 n) (k : Frame S2 S3 F2 F3 m) (hnm : n ≤ m) (hlt : ∀ b x, (b, x) ∈ S → b < n) : Frame S S3 F F3 n := by
  refine ⟨fun b x hb hnb => k.kept b x (h.kept b x hb hnb) fun h2 => ?_, fun b hb => ?_⟩
  · rcases h.fresh b h2 with h3 | h3
    · exact hnb h3
    · have := hlt b x hb; omega
  · rcases k.fresh b hb with h3 | h3
    · exact h.fresh b h3
    · right; omega
/-- Bytes that were handed in: they lie where nothing is turned, in a row of the law's, or in a block of the law's that is no tree's. -/
def Byo (w0 : World) (S : Blocks) (F : List Nat) (L : List Rw) (v : Value) (zs : List Int) : Prop := Pc L v zs ∨ By w0 v zs ∨
  ∃ b C T mk, (b, Obj.cells C T mk) ∈ S ∧ b ∉ F ∧ v = .slice (some ⟨b, 0, none⟩) zs.length zs.length ∧ C.toList = bs zs ∧ Byts zs ∧ zs.length ≤ 1000
theorem block_by {w : World} {b : Nat} {C : Array Value} {T : TypeId} {mk : Nat × Nat} {zs : List Int} (hb : w.heap[b]? = some (.cells C T mk)) (hC : C.toList = bs zs) (hz : Byts zs) (hl : zs.length ≤ 1000) : By w (.slice (some ⟨b, 0, none⟩) zs.length zs.length) zs := by
  refine ⟨.inr ⟨_, _, rfl, fun j u hj => ?_, bs_one zs⟩, hz, _, _, rfl, Nat.le_refl _, by unfold maxLen; omega⟩
  rw [Addr.add_mid, Nat.zero_add]
  unfold World.cell?
  rw [hb]
  show C[j]? = _
  rw [← Array.getElem?_toList, hC]; exact hj
theorem Byo.by {w0 w : World} {S S' : Blocks} {F : List Nat} {L : List Rw} {v : Value} {zs : List Int} (h : Byo w0 S F L v zs) (hs : ∀ b x, (b, x) ∈ S → b ∉ F → (b, x) ∈ S') (hO : Own ⟨w0, S'⟩ w L) : By w v zs := by
  rcases h with h | h | ⟨b, C, T, mk, h1, h2, rfl, h3, h4, h5⟩
  · exact h.by hO
  · exact h.later hO.below
  · exact block_by (hO.at (hs _ _ h1 h2)) h3 h4 h5
theorem Byo.mono {w0 : World} {S S' : Blocks} {F F' : List Nat} {L L' : List Rw} {v : Value} {zs : List Int} (h : Byo w0 S F L v zs) (hs : ∀ b x, (b, x) ∈ S → (b, x) ∈ S') (hF : ∀ b x, (b, x) ∈ S → b ∉ F → b ∉ F') (hL : ∀ r ∈ L, r ∈ L') : Byo w0 S' F' L' v zs := by
  rcases h with h | h | ⟨b, C, T, mk, h1, h2, h3⟩
  · exact .inl (h.mono hL)
  · exact .inr (.inl h)
  · exact .inr (.inr ⟨b, C, T, mk, hs _ _ h1, hF _ _ h1 h2, h3⟩)
theorem Byo.form {w0 : World} {S : Blocks} {F : List Nat} {L : List Rw} {v : Value} {zs : List Int} (h : Byo w0 S F L v zs) : ∃ a c, v = .slice a zs.length c := by
  rcases h with ⟨a, c, h, _⟩ | ⟨_, _, a, c, h, _⟩ | ⟨b, C, T, mk, _, _, h, _⟩
  · exact ⟨a, c, h⟩
  · exact ⟨a, c, h⟩
  · exact ⟨_, _, h⟩
def createT (T : Tr) (j : Int) (nd : Nd) (name : ByteArray) (n : Nd) : Tr := putT (({ T with next := T.next + 1 } : Tr).setN T.next n) j nd name T.next n
set_option maxHeartbeats 2000000 in
theorem growFile_any {w0 w : World} {S : Blocks} {L : List Rw} {t : Nat} {T : Tr} (hO : Own ⟨w0, S⟩ w L) (H : Tree S (Pc L) t T) {j : Int} {nd : Nd} {k : Nat} (hj : look T.nodes j = some nd) (hk : nd.k = some k) (name : ByteArray)
    (p q : ByteArray) (v : Value) (zs : List Int) (hv : Byo w0 S (t :: T.foot) L v zs) (hl : zs.length ≤ 140737488355328) (hn1 : 2 ≤ T.next) (hn2 : T.next ≤ 1000000000) :
    Calls Tryz.prog 66 #[.pointer (some ⟨t, 0, none⟩), .agg #[.pointer (some ⟨nd.b, 0, none⟩), .string name], .agg (opL 2 p q v).toArray] w
      (DoL w0 S L t T w (fun T' => ∃ n : Nd, n.er = ⟨false, [], zs, 0⟩ ∧ T' = createT T j nd name n) (.tuple #[])) := by
  have hcl0 := fun (w' : World) (S' : Blocks) (hs : ∀ b x, (b, x) ∈ S → b ∉ t :: T.foot → (b, x) ∈ S') (h : Own ⟨w0, S'⟩ w' L) => clone_any v zs w' (hv.by hs h) hl
  obtain ⟨va, vc, rfl⟩ := hv.form
  obtain ⟨vn, hvn⟩ : ∃ vn, vn = zs.length := ⟨_, rfl⟩
  rw [← hvn] at hcl0 ⊢
  have hO2 := (hO.newB (.cells #[.pointer (some ⟨nd.b, 0, none⟩), .string name] 115)).newB (.cells #[.int .i64 2, .string p, .string q, .slice va vn vc] 38)
  rw [show (w.alloc (.cells #[.pointer (some ⟨nd.b, 0, none⟩), .string name] 115)).heap.size = w.heap.size + 1 by simp] at hO2
  obtain ⟨w2, hw2⟩ : ∃ w2, w2 = (w.alloc (.cells #[.pointer (some ⟨nd.b, 0, none⟩), .string name] 115)).alloc (.cells #[.int .i64 2, .string p, .string q, .slice va vn vc] 38) := ⟨_, rfl⟩
  rw [← hw2] at hO2
  have hsz2 : w2.heap.size = w.heap.size + 2 := by rw [hw2]; simp
  have hlow : ∀ b ∈ t :: T.foot, b < w.heap.size := fun b hb => by
    obtain ⟨x, hx⟩ := kept_in H.at_ b hb
    exact (hO.atLt hx).2
  have H2 := H.mono (D2 := Pc L) (S2 := (w.heap.size + 1, .cells #[.int .i64 2, .string p, .string q, .slice va vn vc] 38) :: (w.heap.size, .cells #[.pointer (some ⟨nd.b, 0, none⟩), .string name] 115) :: S) (fun b x _ hx => List.mem_cons_of_mem _ (List.mem_cons_of_mem _ hx)) (fun _ _ h => h)
  have ht := hlow t (List.mem_cons_self ..)
  -- the next number
  have c1 : w2.cell? ⟨t, 1, none⟩ = some (.int .i64 T.next) := (H2.at_.inWorld hO2).at0.2.1
  have fz1 : w2.frozen? ⟨t, 1, none⟩ = false := free_at (hO2.at H2.at_.cells) 1
  have k0 : w2.cell? ⟨w.heap.size + 1, 0, none⟩ = some (.int .i64 2) := by rw [hO2.cellB (List.mem_cons_self ..)]; rfl
  have hO3 := hO2.storeB H2.at_.cells 1 (.int .i64 (T.next + 1))
  have H3 := H2.setNext (T.next + 1) (by omega)
  have m0 : (w.heap.size + 1, Obj.cells #[.int .i64 2, .string p, .string q, .slice va vn vc] 38) ∈ upd ((w.heap.size + 1, .cells #[.int .i64 2, .string p, .string q, .slice va vn vc] 38) :: (w.heap.size, .cells #[.pointer (some ⟨nd.b, 0, none⟩), .string name] 115) :: S) t (.cells (treeCells { T with next := T.next + 1 }) 75) := upd_other (List.mem_cons_self ..) (by omega) _
  have m1 : (w.heap.size, Obj.cells #[.pointer (some ⟨nd.b, 0, none⟩), .string name] 115) ∈ upd ((w.heap.size + 1, .cells #[.int .i64 2, .string p, .string q, .slice va vn vc] 38) :: (w.heap.size, .cells #[.pointer (some ⟨nd.b, 0, none⟩), .string name] 115) :: S) t (.cells (treeCells { T with next := T.next + 1 }) 75) := upd_other (List.mem_cons_of_mem _ (List.mem_cons_self ..)) (by omega) _
  have hkeep3 : ∀ b x, (b, x) ∈ S → b ∉ t :: T.foot → (b, x) ∈ upd ((w.heap.size + 1, .cells #[.int .i64 2, .string p, .string q, .slice va vn vc] 38) :: (w.heap.size, .cells #[.pointer (some ⟨nd.b, 0, none⟩), .string name] 115) :: S) t (.cells (treeCells { T with next := T.next + 1 }) 75) := fun b x hb hnb => upd_other (List.mem_cons_of_mem _ (List.mem_cons_of_mem _ hb)) (fun e => hnb (e ▸ List.mem_cons_self ..)) _
  obtain ⟨w3, hw3⟩ : ∃ w3, w3 = w2.setCell ⟨t, 1, none⟩ (.int .i64 (T.next + 1)) := ⟨_, rfl⟩
  change Own ⟨w0, upd _ t (.cells (treeCells { T with next := T.next + 1 }) 75)⟩ _ L at hO3
  rw [← hw3] at hO3
  have hsz3 : w3.heap.size = w.heap.size + 2 := by rw [hw3, ← hsz2]; simp
  generalize upd ((w.heap.size + 1, Obj.cells #[.int .i64 2, .string p, .string q, .slice va vn vc] 38) :: (w.heap.size, Obj.cells #[.pointer (some ⟨nd.b, 0, none⟩), .string name] 115) :: S) t (.cells (treeCells { T with next := T.next + 1 }) 75) = S3 at *
  -- the new file
  have hcl := hcl0 _ _ hkeep3 hO3.drew
  have hne : j ≠ T.next := fun e => by have := (H.good.low _ (look_mem hj)).2; simp at this; omega
  have hnk : T.next ∉ T.nodes.map (·.1) := fun hm => by
    obtain ⟨v, hv⟩ := look_some_of_key hm
    rw [fresh_none H.good hn1] at hv; cases hv
  have hbmlt : T.bm < w.heap.size := hlow _ (List.mem_cons_of_mem _ (List.mem_cons_self ..))
  have hlow0 : ∀ b x, (b, x) ∈ S → b < w.heap.size := fun b x hb => (hO.atLt hb).2
  have hgen : ∀ (w7 : World) (a7 : Option Addr) (c7 : Nat), Own w3.drew w7 [rowU (.slice a7 zs.length c7) zs] → Byts zs →
      ∃ W7, (Instr.mapUpdate 73 (.map (some T.bm)) (.int .i64 T.next) (.pointer (some ⟨w7.heap.size, 0, none⟩))).run Tryz.prog (w7.alloc (.cells #[.map none, .slice a7 zs.length c7, .int .i64 0] 86)) = .ok () W7 ∧
        (w7.cell? ⟨t, 2, none⟩ = some (.map (some T.bm)) ∧ w7.cell? ⟨w.heap.size + 1, 3, none⟩ = some (.slice va vn vc)) ∧
        ((w7.alloc (.cells #[.map none, .slice a7 zs.length c7, .int .i64 0] 86)).cell? ⟨t, 2, none⟩ = some (.map (some T.bm)) ∧ (w7.alloc (.cells #[.map none, .slice a7 zs.length c7, .int .i64 0] 86)).cell? ⟨w.heap.size + 1, 3, none⟩ = some (.slice va vn vc)) ∧
        (W7.cell? ⟨t, 2, none⟩ = some (.map (some T.bm)) ∧ W7.cell? ⟨w.heap.size + 1, 3, none⟩ = some (.slice va vn vc)) ∧
        W7.cell? ⟨w.heap.size, 0, none⟩ = some (.pointer (some ⟨nd.b, 0, none⟩)) ∧ W7.cell? ⟨w.heap.size, 1, none⟩ = some (.string name) ∧
        Calls Tryz.prog 88 #[.pointer (some ⟨t, 0, none⟩), .agg #[.pointer (some ⟨nd.b, 0, none⟩), .string name], .int .i64 T.next] W7 (fun e w' => e = .returned (.tuple #[]) ∧ DoL w0 S L t T w (fun T' => ∃ n : Nd, n.er = ⟨false, [], zs, 0⟩ ∧ T' = createT T j nd name n) (.tuple #[]) (.returned (.tuple #[])) w') := by
    intro w7 a7 c7 h7 hz
    have g7 := hO3.drew.join h7
    have hpc : Pc ([rowU (.slice a7 zs.length c7) zs] ++ L) (.slice a7 zs.length c7) zs := Pc.all g7 hz
    have H37 := H3.mono (D2 := Pc ([rowU (.slice a7 zs.length c7) zs] ++ L)) (fun b x _ hx => hx) (fun v zs h => h.mono fun r hr => List.mem_append_right _ hr)
    have g8 := g7.newB (.cells #[.map none, .slice a7 zs.length c7, .int .i64 0] 86)
    obtain ⟨o1, x1, x2⟩ := H37.at_.map
    have x1' := List.mem_cons_of_mem (w7.heap.size, Obj.cells #[.map none, .slice a7 zs.length c7, .int .i64 0] 86) x1
    have hsz7 : w.heap.size + 2 ≤ w7.heap.size := by have := h7.below.size; rw [← hsz3]; exact this
    obtain ⟨o2, hup1, x3⟩ := x2.update kindsI Tryz.underlying73 (g8.at x1') T.next (.pointer (some ⟨w7.heap.size, 0, none⟩))
    have g9 := g8.setB x1' o2
    have hkeep5 : ∀ b x, (b, x) ∈ S3 → b ≠ T.bm → (b, x) ∈ upd ((w7.heap.size, Obj.cells #[.map none, .slice a7 zs.length c7, .int .i64 0] 86) :: S3) T.bm o2 := fun b x hb hne => upd_other (List.mem_cons_of_mem _ hb) hne _
    have H9 := H37.addN (i := T.next) (n := ⟨w7.heap.size, none, [], .slice a7 zs.length c7, zs, 0⟩) (N := w7.heap.size) (fresh_none H.good hn1) (by show (1 : Int) ≤ T.next; omega) (by show T.next < T.next + 1; omega) x3 hkeep5 (upd_same x1' o2) ⟨upd_other (List.mem_cons_self ..) (by show w7.heap.size ≠ T.bm; omega) _, (fun k2 hk2 => by cases hk2), (fun _ => rfl), hpc, ⟨a7, c7, rfl⟩⟩
      (fun b hb => by have := hlow b hb; omega) (fun b hb => by
        have : b ∈ [w7.heap.size] := hb
        simp at this; omega) (by show ([w7.heap.size] : List Nat).Nodup; simp) rfl
    have hj9 : look (({ T with next := T.next + 1 } : Tr).setN T.next ⟨w7.heap.size, none, [], .slice a7 zs.length c7, zs, 0⟩).nodes j = some nd := by unfold Tr.setN; rw [look_put, if_neg hne]; exact hj
    have hi9 : look (({ T with next := T.next + 1 } : Tr).setN T.next ⟨w7.heap.size, none, [], .slice a7 zs.length c7, zs, 0⟩).nodes T.next = some ⟨w7.heap.size, none, [], .slice a7 zs.length c7, zs, 0⟩ := by unfold Tr.setN; rw [look_put, if_pos rfl]
    have hput := put_any g9 H9 hj9 hk name hi9 rfl (Int.le_refl 0) (by show (0 : Int) ≤ 1000000000; decide)
    have e : (({ T with next := T.next + 1 } : Tr).setN T.next ⟨w7.heap.size, none, [], .slice a7 zs.length c7, zs, 0⟩).foot = T.foot ++ [w7.heap.size] := foot_put (T := { T with next := T.next + 1 }) hnk
    have hfr : Frame S (upd ((w7.heap.size, Obj.cells #[.map none, .slice a7 zs.length c7, .int .i64 0] 86) :: S3) T.bm o2) (t :: T.foot) (t :: (({ T with next := T.next + 1 } : Tr).setN T.next ⟨w7.heap.size, none, [], .slice a7 zs.length c7, zs, 0⟩).foot) w.heap.size := by
      refine ⟨fun b x hb hnb => hkeep5 b x (hkeep3 b x hb hnb) (fun e => hnb (e ▸ List.mem_cons_of_mem _ (List.mem_cons_self ..))), fun b hb => ?_⟩
      rw [e, ← List.cons_append] at hb
      rcases List.mem_append.1 hb with hb | hb
      · exact .inl hb
      · simp at hb; right; omega
    have m0' := hkeep5 _ _ m0 (by omega)
    have m1' := hkeep5 _ _ m1 (by omega)
    refine ⟨_, hup1, ⟨(H37.at_.inWorld g7).at0.2.2, by rw [g7.cellB m0]; rfl⟩, ⟨by rw [g8.cellB (List.mem_cons_of_mem _ H37.at_.cells)]; rfl, by rw [g8.cellB (List.mem_cons_of_mem _ m0)]; rfl⟩, ⟨(H9.at_.inWorld g9).at0.2.2, by rw [g9.cellB m0']; rfl⟩, by rw [g9.cellB m1']; rfl, by rw [g9.cellB m1']; rfl, hput.mono ?_⟩
    rintro e w' ⟨S', rfl, k1, k2, k3⟩
    refine ⟨rfl, S', _, _, rfl, k1, fun r hr => List.mem_append_right _ hr, k2, hfr.trans k3 ?_ hlow0, _, rfl, rfl⟩
    have := g9.size
    have h8 := g8.size
    rw [show (setBlock (w7.alloc (.cells #[.map none, .slice a7 zs.length c7, .int .i64 0] 86)) T.bm o2).heap.size = w7.heap.size + 1 by simp [setBlock]]
    omega
  have hz : Byts zs := (hv.by (fun _ _ h _ => h) hO).2.1
  have k3 : w3.cell? ⟨w.heap.size + 1, 0, none⟩ = some (.int .i64 2) := by rw [hO3.cellB m0]; rfl
  have hs3 : w3.drew.cell? ⟨t, 2, none⟩ = some (.map (some T.bm)) ∧ w3.drew.cell? ⟨w.heap.size + 1, 3, none⟩ = some (.slice va vn vc) := ⟨(H3.at_.inWorld hO3.drew).at0.2.2, by rw [hO3.drew.cellB m0]; rfl⟩
  rw [hw3, hw2] at k3
  rw [hw2] at c1 fz1 k0
  have hwr : IntKind.i64.wrap (T.next + 1) = T.next + 1 := IntWalk.i64_in _ (by omega)
  clear hO hO2 hO3 H H2 H3 hlow hlow0 hkeep3 m0 m1 hj hk hne hnk hv hl hcl0 hsz2 hsz3 ht hbmlt hvn
  go_enter Tryz.func66, Tryz.ntmps66
  go_wp2_with fail
  rw [← hw2, ← hw3]
  clear hw2 hw3 k0 k3 c1 fz1
  go_region_held3 (fun w' : World => w'.cell? ⟨t, 2, none⟩ = some (.map (some T.bm)) ∧ w'.cell? ⟨w.heap.size + 1, 3, none⟩ = some (.slice va vn vc)) (first | exact hs3 | exact s2 | exact s1 | exact s3) (first | (go_at_call 59; refine hcl.mono ?_; rintro e w7 ⟨v7, rfl, h7⟩; obtain ⟨a7, c7, rfl, _, _⟩ := Own.sized (h := (show Own w3.drew w7 (⟨5, 1, v7, zs.length, bs zs⟩ :: []) from h7)); obtain ⟨W7, hup7, s1, s2, s3, p0, p1, hput7⟩ := hgen w7 a7 c7 h7 hz))
  trace_state
  all_goals go_wp2_with (go_at_call 88; refine hput7.mono ?_; rintro e w8 ⟨rfl, hD⟩)
  all_goals refine bodyPost_end (v := .tuple #[]) ?_ rfl hD
  all_goals simp [results, Tryz.results66, go_sem]
end Go.Proofs.YtdjoahhcmkedhaaGreatDoor
end

/- link. -/
section
namespace Go.Proofs.YtdjoahhcmkedhaaGreatDoor
open Go.RowKit
open Go.ChangeMaps (setBlock)
set_option linter.unusedVariables false
set_option linter.unusedSimpArgs false
set_option maxRecDepth 100000

theorem Done.toDoL {w0 w w1 w' : World} {S : Blocks} {L : List Rw} {t : Nat} {T T' : Tr} {r : Value} {e : Ending} (h : Done w0 S L (Pc L) t T T' w1 r e w') (hw : w.heap.size ≤ w1.heap.size) (hlt : ∀ b x, (b, x) ∈ S → b < w.heap.size) : DoL w0 S L t T w (fun T2 => T2 = T') r e w' := by
  obtain ⟨S', h1, h2, h3, h4⟩ := h
  exact ⟨S', L, T', h1, h2, fun _ h => h, h3, (Frame.refl S _ _).trans h4 hw hlt, rfl⟩
theorem DoL.same {w0 w w1 : World} {S : Blocks} {L : List Rw} {t : Nat} {T : Tr} (r : Value) (hO : Own ⟨w0, S⟩ w1 L) (H : Tree S (Pc L) t T) : DoL w0 S L t T w (fun T2 => T2 = T) r (.returned r) w1 := ⟨S, L, T, rfl, hO, fun _ h => h, H, Frame.refl _ _ _, rfl⟩
set_option maxHeartbeats 1000000 in
theorem link_twice {w0 w : World} {S : Blocks} {L : List Rw} {t : Nat} {T : Tr} (hO : Own ⟨w0, S⟩ w L) (H : Tree S (Pc L) t T) {j : Int} {nd : Nd} {k : Nat} (hj : look T.nodes j = some nd) (hk : nd.k = some k) (name : ByteArray) (i : Int) {x : Int} (hx : look nd.kids name = some x) :
    Calls Tryz.prog 90 #[.pointer (some ⟨t, 0, none⟩), .agg #[.pointer (some ⟨nd.b, 0, none⟩), .string name], .int .i64 i] w (DoL w0 S L t T w (fun T2 => T2 = T) (.int .i64 9)) := by
  have hO1 := (hO.alloc (.cells #[.pointer (some ⟨nd.b, 0, none⟩), .string name] 115)).drew
  obtain ⟨w1, hw1⟩ : ∃ w1, w1 = w.alloc (.cells #[.pointer (some ⟨nd.b, 0, none⟩), .string name] 115) := ⟨_, rfl⟩
  have p0 : w1.drew.cell? ⟨w.heap.size, 0, none⟩ = some (.pointer (some ⟨nd.b, 0, none⟩)) := by rw [hw1]; show (w.alloc _).cell? _ = _; rw [World.cell?_alloc_new]; rfl
  have p1 : w1.drew.cell? ⟨w.heap.size, 1, none⟩ = some (.string name) := by rw [hw1]; show (w.alloc _).cell? _ = _; rw [World.cell?_alloc_new]; rfl
  rw [← hw1] at hO1
  have hNW := (H.at_.inWorld hO1).node _ (look_mem hj)
  obtain ⟨c0, _, _⟩ := hNW.at0
  rw [hk] at c0
  have hl := hNW.look hk name
  rw [hx] at hl
  dsimp only [Option.getD_some, Option.isSome_some] at hl
  have HP := Lib.hid (show DoL w0 S L t T w (fun T2 => T2 = T) (.int .i64 9) (.returned (.int .i64 9)) w1.drew from DoL.same _ hO1 H)
  clear hO hO1 H hj hk hx hNW
  go_enter Tryz.func90, Tryz.ntmps90
  go_wp2_with fail
  rw [← hw1]
  clear hw1
  go_region
  all_goals go_wp2_with fail
  all_goals go_ret
  all_goals exact HP.out
set_option maxHeartbeats 1000000 in
theorem link_ok {w0 w : World} {S : Blocks} {L : List Rw} {t : Nat} {T : Tr} (hO : Own ⟨w0, S⟩ w L) (H : Tree S (Pc L) t T) {j : Int} {nd : Nd} {k : Nat} (hj : look T.nodes j = some nd) (hk : nd.k = some k) (name : ByteArray) (hx : look nd.kids name = none)
    {i : Int} {f : Nd} (hi : look T.nodes i = some f) (hf : f.k = none) (hp0 : 0 ≤ f.places) (hp : f.places ≤ 1000000000) :
    Calls Tryz.prog 90 #[.pointer (some ⟨t, 0, none⟩), .agg #[.pointer (some ⟨nd.b, 0, none⟩), .string name], .int .i64 i] w (DoL w0 S L t T w (fun T2 => T2 = putT T j nd name i f) (.int .i64 0)) := by
  have hO1 := (hO.alloc (.cells #[.pointer (some ⟨nd.b, 0, none⟩), .string name] 115)).drew
  obtain ⟨w1, hw1⟩ : ∃ w1, w1 = w.alloc (.cells #[.pointer (some ⟨nd.b, 0, none⟩), .string name] 115) := ⟨_, rfl⟩
  have p0 : w1.drew.cell? ⟨w.heap.size, 0, none⟩ = some (.pointer (some ⟨nd.b, 0, none⟩)) := by rw [hw1]; show (w.alloc _).cell? _ = _; rw [World.cell?_alloc_new]; rfl
  have p1 : w1.drew.cell? ⟨w.heap.size, 1, none⟩ = some (.string name) := by rw [hw1]; show (w.alloc _).cell? _ = _; rw [World.cell?_alloc_new]; rfl
  have hle : w.heap.size ≤ w1.drew.heap.size := by rw [hw1]; show _ ≤ (w.alloc _).heap.size; simp
  rw [← hw1] at hO1
  have hNW := (H.at_.inWorld hO1).node _ (look_mem hj)
  obtain ⟨c0, _, _⟩ := hNW.at0
  rw [hk] at c0
  have hl := hNW.look hk name
  rw [hx] at hl
  dsimp only [Option.getD_none, Option.isSome_none] at hl
  have hput : Calls Tryz.prog 88 #[.pointer (some ⟨t, 0, none⟩), .agg #[.pointer (some ⟨nd.b, 0, none⟩), .string name], .int .i64 i] w1.drew (fun e w' => e = .returned (.tuple #[]) ∧ DoL w0 S L t T w (fun T2 => T2 = putT T j nd name i f) (.int .i64 0) (.returned (.int .i64 0)) w') :=
    (put_any hO1 H hj hk name hi hf hp0 hp).mono fun e w' h => by
      obtain ⟨S', rfl, h2, h3, h4⟩ := h
      exact ⟨rfl, S', L, _, rfl, h2, fun _ h => h, h3, (Frame.refl S _ _).trans h4 hle (fun b x hb => (hO.atLt hb).2), rfl⟩
  clear hO hO1 H hj hk hx hNW hle hi hf
  go_enter Tryz.func90, Tryz.ntmps90
  go_wp2_with fail
  rw [← hw1]
  clear hw1
  go_region
  all_goals go_wp2_with (go_at_call 88; refine hput.mono ?_; rintro e w8 ⟨rfl, hD⟩)
  all_goals go_ret
  all_goals exact hD
end Go.Proofs.YtdjoahhcmkedhaaGreatDoor
end

/- rename. -/
section
namespace Go.Proofs.YtdjoahhcmkedhaaGreatDoor
open Go.RowKit
open Go.ChangeMaps (setBlock)
set_option linter.unusedVariables false
set_option linter.unusedSimpArgs false
set_option maxRecDepth 100000

theorem look_del_ne {α β : Type} [DecidableEq α] {m : List (α × β)} {a b : α} (h : b ≠ a) : look (del m a) b = look m b := by
  induction m with
  | nil => rfl
  | cons p r ih =>
    unfold del
    split
    · rename_i e
      have : ¬ p.1 = b := fun e2 => h (e2.symm.trans e)
      rw [look, if_neg this]
    · rw [look, look, ih]
def putTx (T : Tr) (j : Int) (name : ByteArray) (i : Int) : Tr := match look T.nodes j, look T.nodes i with
  | some nd, some f => putT T j nd name i f
  | _, _ => T
def takeTx (T : Tr) (j : Int) (name : ByteArray) : Tr := match look T.nodes j with
  | none => T
  | some nd => match look nd.kids name with
    | none => T
    | some i => match look T.nodes i with
      | none => T
      | some f => takeT T j nd name i f
theorem putTx_of {T : Tr} {j : Int} {nd : Nd} (name : ByteArray) {i : Int} {f : Nd} (hj : look T.nodes j = some nd) (hi : look T.nodes i = some f) : putTx T j name i = putT T j nd name i f := by unfold putTx; rw [hj, hi]
theorem takeTx_of {T : Tr} {j : Int} {nd : Nd} {name : ByteArray} {i : Int} {f : Nd} (hj : look T.nodes j = some nd) (hs : look nd.kids name = some i) (hi : look T.nodes i = some f) : takeTx T j name = takeT T j nd name i f := by
  unfold takeTx; simp only [hj, hs, hi]
theorem look_takeT {T : Tr} {j : Int} {nd : Nd} {name : ByteArray} {i : Int} {f : Nd} (x : Int) : look (takeT T j nd name i f).nodes x = if x = j then some { nd with kids := del nd.kids name } else if x = i then some { f with places := f.places - 1 } else look T.nodes x := by
  unfold takeT Tr.setN
  rw [look_put, look_put]
/-- A directory, a name in it, a file that stands there. -/
structure At (T : Tr) (j : Int) (nd : Nd) (k : Nat) : Prop where
  there : look T.nodes j = some nd
  dir : nd.k = some k
structure Fl (T : Tr) (i : Int) (f : Nd) : Prop where
  there : look T.nodes i = some f
  file : f.k = none
  low : 0 ≤ f.places
  high : f.places ≤ 1000000000
theorem At.ne {T : Tr} {j i : Int} {nd f : Nd} {k : Nat} (h : At T j nd k) (g : Fl T i f) : j ≠ i := fun e => by
  have h1 := h.there
  rw [e, g.there] at h1
  injection h1 with h1
  have := h.dir
  rw [← h1, g.file] at this; cases this
theorem At.behind {T : Tr} {j i : Int} {nd f : Nd} {k : Nat} {name : ByteArray} {j' : Int} {nd' : Nd} {k' : Nat} (h : At T j nd k) (g : Fl T i f) (h' : At T j' nd' k') : ∃ nd2, At (takeT T j nd name i f) j' nd2 k' ∧ nd2.b = nd'.b ∧ (j' ≠ j → nd2 = nd') ∧ (j' = j → nd2.kids = del nd'.kids name) := by
  by_cases e : j' = j
  · have e2 : nd' = nd := by have h1 := h'.there; rw [e, h.there] at h1; injection h1 with h1; exact h1.symm
    refine ⟨{ nd with kids := del nd.kids name }, ⟨by rw [look_takeT, if_pos e], by rw [← e2]; exact h'.dir⟩, by rw [e2], fun h => absurd e h, fun _ => by rw [e2]⟩
  · exact ⟨nd', ⟨by rw [look_takeT, if_neg e, if_neg (h'.ne g)]; exact h'.there, h'.dir⟩, rfl, fun _ => rfl, fun h => absurd h e⟩
theorem Fl.behind {T : Tr} {j i : Int} {nd f : Nd} {k : Nat} {name : ByteArray} {i' : Int} {f' : Nd} (h : At T j nd k) (g : Fl T i f) (g' : Fl T i' f') (hp : 1 ≤ f.places ∨ i' ≠ i) : ∃ f2, Fl (takeT T j nd name i f) i' f2 := by
  by_cases e : i' = i
  · have hp1 : 1 ≤ f.places := hp.resolve_right fun h => h e
    exact ⟨{ f with places := f.places - 1 }, ⟨by rw [look_takeT, if_neg (e ▸ (h.ne g).symm), if_pos e], g.file, by show 0 ≤ f.places - 1; omega, by show f.places - 1 ≤ _; have := g.high; omega⟩⟩
  · exact ⟨f', ⟨by rw [look_takeT, if_neg (h.ne g').symm, if_neg e]; exact g'.there, g'.file, g'.low, g'.high⟩⟩
/-- take, of a tree beside other blocks. -/
theorem take_on {w0 w : World} {S : Blocks} {L : List Rw} {t : Nat} {T : Tr} (hO : Own ⟨w0, S⟩ w L) (H : Tree S (Pc L) t T) {j : Int} {nd : Nd} {k : Nat} (h : At T j nd k) {name : ByteArray} {i : Int} {f : Nd} (hs : look nd.kids name = some i) (g : Fl T i f) :
    Calls Tryz.prog 89 #[.pointer (some ⟨t, 0, none⟩), .agg #[.pointer (some ⟨nd.b, 0, none⟩), .string name]] w (fun e w' => e = .returned (.tuple #[]) ∧ ∃ S', Own ⟨w0, S'⟩ w' L ∧ Tree S' (Pc L) t (takeTx T j name) ∧ Frame S S' (t :: T.foot) (t :: (takeTx T j name).foot) w.heap.size) :=
  (take_any hO H h.there h.dir name hs g.there g.file g.low g.high).mono fun e w' hd => by
    obtain ⟨S', e1, h1, h2, h3⟩ := hd
    rw [takeTx_of h.there hs g.there]
    exact ⟨e1, S', h1, h2, h3⟩
theorem put_on {w0 w : World} {S : Blocks} {L : List Rw} {t : Nat} {T : Tr} (hO : Own ⟨w0, S⟩ w L) (H : Tree S (Pc L) t T) {j : Int} {nd : Nd} {k : Nat} (h : At T j nd k) (name : ByteArray) {i : Int} {f : Nd} (g : Fl T i f) :
    Calls Tryz.prog 88 #[.pointer (some ⟨t, 0, none⟩), .agg #[.pointer (some ⟨nd.b, 0, none⟩), .string name], .int .i64 i] w (fun e w' => e = .returned (.tuple #[]) ∧ ∃ S', Own ⟨w0, S'⟩ w' L ∧ Tree S' (Pc L) t (putTx T j name i) ∧ Frame S S' (t :: T.foot) (t :: (putTx T j name i).foot) w.heap.size) :=
  (put_any hO H h.there h.dir name g.there g.file g.low g.high).mono fun e w' hd => by
    obtain ⟨S', e1, h1, h2, h3⟩ := hd
    rw [putTx_of name h.there g.there]
    exact ⟨e1, S', h1, h2, h3⟩
end Go.Proofs.YtdjoahhcmkedhaaGreatDoor
end

/- rename: the walks. -/
section
namespace Go.Proofs.YtdjoahhcmkedhaaGreatDoor
open Go.RowKit
open Go.ChangeMaps (setBlock)
set_option linter.unusedVariables false
set_option linter.unusedSimpArgs false
set_option maxRecDepth 100000

theorem Frame.more {S S2 S3 : Blocks} {F F3 : List Nat} {n m : Nat} (hs : ∀ b x, (b, x) ∈ S → (b, x) ∈ S2) (k : Frame S2 S3 F F3 m) (hnm : n ≤ m) (hlt : ∀ b x, (b, x) ∈ S → b < n) : Frame S S3 F F3 n :=
  (⟨fun b x hb _ => hs b x hb, fun b hb => .inl hb⟩ : Frame S S2 F F n).trans k hnm hlt
theorem two_boxes {w0 w : World} {S : Blocks} {L : List Rw} {t : Nat} {T : Tr} (hO : Own ⟨w0, S⟩ w L) (H : Tree S (Pc L) t T) (P Q : Obj) : ∃ w1 S2, w1 = (w.alloc P).alloc Q ∧ w1.heap.size = w.heap.size + 2 ∧ Own ⟨w0, S2⟩ w1.drew L ∧ Tree S2 (Pc L) t T ∧ (w.heap.size, P) ∈ S2 ∧ (w.heap.size + 1, Q) ∈ S2 ∧ (∀ b x, (b, x) ∈ S → (b, x) ∈ S2) ∧ (∀ b x, (b, x) ∈ S → b < w.heap.size) ∧ (∀ b ∈ t :: T.foot, b < w.heap.size) := by
  have h2 := (hO.newB P).newB Q
  rw [show (w.alloc P).heap.size = w.heap.size + 1 by simp] at h2
  refine ⟨_, (w.heap.size + 1, Q) :: (w.heap.size, P) :: S, rfl, by simp, h2.drew, H.mono (fun b x _ hx => List.mem_cons_of_mem _ (List.mem_cons_of_mem _ hx)) (fun _ _ h => h), List.mem_cons_of_mem _ (List.mem_cons_self ..), List.mem_cons_self .., fun b x hb => List.mem_cons_of_mem _ (List.mem_cons_of_mem _ hb), fun b x hb => (hO.atLt hb).2, fun b hb => ?_⟩
  obtain ⟨x, hx⟩ := kept_in H.at_ b hb
  exact (hO.atLt hx).2
/-- take at one place, then put at another one, with both places in boxes. -/
theorem take_put {w0 w w1 : World} {S S2 : Blocks} {L : List Rw} {t : Nat} {T T0 : Tr} {m : Nat} (hO : Own ⟨w0, S2⟩ w1 L) (H : Tree S2 (Pc L) t T) {ja jb i : Int} {nda ndb f : Nd} {ka kb : Nat} (ha : At T ja nda ka) (hb : At T jb ndb kb) {na nb : ByteArray} (hs : look nda.kids na = some i) (g : Fl T i f) (hp : 1 ≤ f.places)
    (hP : (m, Obj.cells #[.pointer (some ⟨nda.b, 0, none⟩), .string na] 115) ∈ S2) (hQ : (m + 1, Obj.cells #[.pointer (some ⟨ndb.b, 0, none⟩), .string nb] 115) ∈ S2) (hlow : ∀ b ∈ t :: T.foot, b < m) (hmw : m + 2 ≤ w1.heap.size)
    (hfr : Frame S S2 (t :: T0.foot) (t :: T.foot) w.heap.size) (hwm : w.heap.size ≤ m) (hlt : ∀ b x, (b, x) ∈ S → b < w.heap.size) :
    Calls Tryz.prog 89 #[.pointer (some ⟨t, 0, none⟩), .agg #[.pointer (some ⟨nda.b, 0, none⟩), .string na]] w1 (fun e w2 => e = .returned (.tuple #[]) ∧ w2.cell? ⟨m, 0, none⟩ = some (.pointer (some ⟨nda.b, 0, none⟩)) ∧ w2.cell? ⟨m, 1, none⟩ = some (.string na) ∧ w2.cell? ⟨m + 1, 0, none⟩ = some (.pointer (some ⟨ndb.b, 0, none⟩)) ∧ w2.cell? ⟨m + 1, 1, none⟩ = some (.string nb) ∧
      Calls Tryz.prog 88 #[.pointer (some ⟨t, 0, none⟩), .agg #[.pointer (some ⟨ndb.b, 0, none⟩), .string nb], .int .i64 i] w2 (fun e w3 => e = .returned (.tuple #[]) ∧ ∃ S', Own ⟨w0, S'⟩ w3 L ∧ Tree S' (Pc L) t (putTx (takeTx T ja na) jb nb i) ∧ Frame S S' (t :: T0.foot) (t :: (putTx (takeTx T ja na) jb nb i).foot) w.heap.size)) :=
  (take_on hO H ha hs g).mono fun e w2 hd => by
    obtain ⟨e1, S3, h1, h2, h3⟩ := hd
    have m1 := h3.kept _ _ hP (fun hm => by have := hlow _ hm; omega)
    have m2 := h3.kept _ _ hQ (fun hm => by have := hlow _ hm; omega)
    obtain ⟨nd2, x1, x2, _, _⟩ := ha.behind (name := na) g hb
    obtain ⟨f2, y1⟩ := Fl.behind (name := na) ha g g (.inl hp)
    rw [← takeTx_of ha.there hs g.there] at x1 y1
    have hp2 := put_on h1 h2 x1 nb y1
    rw [x2] at hp2
    have hsz : w.heap.size ≤ w2.heap.size := by
      have := (h1.atLt m2).2
      omega
    refine ⟨e1, by rw [h1.cellB m1]; rfl, by rw [h1.cellB m1]; rfl, by rw [h1.cellB m2]; rfl, by rw [h1.cellB m2]; rfl, hp2.mono fun e w3 hd => ?_⟩
    obtain ⟨e2, S4, z1, z2, z3⟩ := hd
    exact ⟨e2, S4, z1, z2, (hfr.trans h3 (by omega) hlt).trans z3 hsz hlt⟩
def argP (nd : Nd) (name : ByteArray) : Value := .agg #[.pointer (some ⟨nd.b, 0, none⟩), .string name]
abbrev boxP (nd : Nd) (name : ByteArray) : Obj := .cells #[.pointer (some ⟨nd.b, 0, none⟩), .string name] 115
def RenamePost (w0 : World) (S : Blocks) (L : List Rw) (t : Nat) (T T' : Tr) (w : World) (c : Int) : Ending → World → Prop := DoL w0 S L t T w (fun T2 => T2 = T') (.int .i64 c)
set_option maxHeartbeats 2000000 in
/-- To where nothing stands. -/
theorem rename_free {w0 w : World} {S : Blocks} {L : List Rw} {t : Nat} {T : Tr} (hO : Own ⟨w0, S⟩ w L) (H : Tree S (Pc L) t T) {ja jb i : Int} {nda ndb f : Nd} {ka kb : Nat} (ha : At T ja nda ka) (hb : At T jb ndb kb) {na nb : ByteArray} (hs : look nda.kids na = some i) (g : Fl T i f) (hp : 1 ≤ f.places) (hx : look ndb.kids nb = none) :
    Calls Tryz.prog 91 #[.pointer (some ⟨t, 0, none⟩), .agg #[.pointer (some ⟨nda.b, 0, none⟩), .string na], .agg #[.pointer (some ⟨ndb.b, 0, none⟩), .string nb], .int .i64 i] w (DoL w0 S L t T w (fun T2 => T2 = putTx (takeTx T ja na) jb nb i) (.int .i64 0)) := by
  obtain ⟨w1, S2, hw1, hsz, hO1, H1, m1, m2, hsub, hlt, hlow⟩ := two_boxes hO H (boxP nda na) (boxP ndb nb)
  have p0 : w1.drew.cell? ⟨w.heap.size, 0, none⟩ = some (.pointer (some ⟨nda.b, 0, none⟩)) := by rw [hO1.cellB m1]; rfl
  have p1 : w1.drew.cell? ⟨w.heap.size, 1, none⟩ = some (.string na) := by rw [hO1.cellB m1]; rfl
  have q0 : w1.drew.cell? ⟨w.heap.size + 1, 0, none⟩ = some (.pointer (some ⟨ndb.b, 0, none⟩)) := by rw [hO1.cellB m2]; rfl
  have q1 : w1.drew.cell? ⟨w.heap.size + 1, 1, none⟩ = some (.string nb) := by rw [hO1.cellB m2]; rfl
  have hNW := (H1.at_.inWorld hO1).node _ (look_mem hb.there)
  obtain ⟨c0, _, _⟩ := hNW.at0
  rw [hb.dir] at c0
  have hl := hNW.look hb.dir nb
  rw [hx] at hl
  dsimp only [Option.getD_none, Option.isSome_none] at hl
  have hT := take_put (w := w) (T0 := T) (m := w.heap.size) hO1 H1 ha hb hs g hp m1 m2 hlow (by show _ ≤ w1.heap.size; omega) ⟨fun b x hb _ => hsub b x hb, fun b hb => .inl hb⟩ (Nat.le_refl _) hlt
  clear hO H hO1 H1 ha hb hx hNW hs g hp m1 m2 hsub hlt hlow hsz
  go_enter Tryz.func91, Tryz.ntmps91
  go_wp2_with fail
  rw [← hw1]
  clear hw1
  go_region
  go_wp2_with fail
  refine hT.mono ?_
  rintro e w2 ⟨rfl, r0, r1, s0, s1, hput⟩
  clear p0 p1 q0 q1 c0 hl hT
  go_wp2_with fail
  refine hput.mono ?_
  rintro e w3 ⟨rfl, S', k1, k2, k3⟩
  have HP := Lib.hid (show DoL w0 S L t T w (fun T2 => T2 = putTx (takeTx T ja na) jb nb i) (.int .i64 0) (.returned (.int .i64 0)) w3 from ⟨S', L, _, rfl, k1, fun _ h => h, k2, k3, rfl⟩)
  clear k1 k2 k3 hput
  go_wp2_with fail
  go_ret
  exact HP.out
end Go.Proofs.YtdjoahhcmkedhaaGreatDoor
end
