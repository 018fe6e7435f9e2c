/- Package rec: what takes parts. -/
import Derived.Test.YtjhaihckbmkiaaaDoorKRec1
import Derived.Deep.QuietTactic
import Derived.BigQuiet
import Derived.Laws.BitsAllLaws
import Derived.Laws.BytesArg
namespace Go.Proofs.YtjhaihckbmkiaaaDoor
open Go.RowKit
set_option linter.unusedVariables false
set_option maxRecDepth 100000
set_option linter.unusedSimpArgs false

/-- A reader in its box. -/
def rowR (r : Nat) (v : Value) (bad : Bool) : Rw := ⟨60, 2, .slice (some ⟨r, 0, none⟩) 1 1, 1, [v, .bool bad]⟩
/-- A slice value that is a piece of a row of bytes of L, and reads as zs. -/
def Pc (L : List Rw) (v : Value) (zs : List Int) : Prop :=
  ∃ a c, v = .slice a zs.length c ∧ zs.length ≤ c ∧ c ≤ maxLen ∧ Byts zs ∧
    ((a = none ∧ c = 0) ∨ ∃ g o, a = some ⟨g, o, none⟩ ∧ (zs ≠ [] → ∃ cap ys, rowU (.slice (some ⟨g, 0, none⟩) ys.length cap) ys ∈ L ∧ o + zs.length ≤ ys.length ∧ zs = (ys.drop o).take zs.length))
theorem Pc.mono {L L' : List Rw} {v : Value} {zs : List Int} (h : Pc L v zs) (hs : ∀ r ∈ L, r ∈ L') : Pc L' v zs := by
  obtain ⟨a, c, hv, h1, h2, hz, h3⟩ := h
  refine ⟨a, c, hv, h1, h2, hz, ?_⟩
  rcases h3 with h3 | ⟨g, o, ha, h3⟩
  · exact .inl h3
  · exact .inr ⟨g, o, ha, fun hne => by obtain ⟨cap, ys, hm, h4⟩ := h3 hne; exact ⟨cap, ys, hs _ hm, h4⟩⟩
theorem Pc.cons {L : List Rw} {v : Value} {zs : List Int} (h : Pc L v zs) (r : Rw) : Pc (r :: L) v zs := h.mono fun _ hm => List.mem_cons_of_mem _ hm
theorem Pc.nil (L : List Rw) : Pc L (.slice none 0 0) [] := ⟨none, 0, rfl, Nat.le_refl _, Nat.zero_le _, Byts.nil, .inl ⟨rfl, rfl⟩⟩
theorem Pc.by {W0 : Base} {w : World} {L : List Rw} {v : Value} {zs : List Int} (h : Pc L v zs) (hO : Own W0 w L) : By w v zs := by
  obtain ⟨a, c, hv, h1, h2, hz, h3⟩ := h
  refine ⟨?_, hz, a, c, hv, h1, h2⟩
  rcases h3 with ⟨rfl, rfl⟩ | ⟨g, o, rfl, h3⟩
  · have hn : zs = [] := List.eq_nil_of_length_eq_zero (by omega)
    subst hn
    exact .inl ⟨hv, rfl, rfl⟩
  · refine .inr ⟨⟨g, o, none⟩, c, hv, fun j u hj => ?_, bs_one _⟩
    have hlt : j < zs.length := by
      rcases Nat.lt_or_ge j zs.length with h2 | h2
      · exact h2
      · rw [List.getElem?_eq_none (by rw [bs_length]; exact h2)] at hj; cases hj
    have hne : zs ≠ [] := by intro e; subst e; simp at hlt
    obtain ⟨cap, ys, hm, h5, h6⟩ := h3 hne
    have hr := hO.only hm
    rw [Addr.add_mid, Own.cell (h := hr) (o + j) (by omega), ← hj]
    rw [h6]
    simp [bs, List.getElem?_take, hlt]
/-- A row of the call's own, as a piece. -/
theorem Pc.all {W0 : Base} {w : World} {L : List Rw} {v : Value} {zs : List Int} (h : Own W0 w (rowU v zs :: L)) (hz : Byts zs) : Pc (rowU v zs :: L) v zs := by
  by_cases hn : zs.length = 0
  · have hn' : zs = [] := List.eq_nil_of_length_eq_zero hn
    subst hn'
    rcases (Own.head h).2 with ⟨h2, _⟩ | ⟨g, cp, cur, h2, _, _, h3, h4, _⟩
    · have h2' : v = .slice none 0 0 := h2
      exact ⟨none, 0, h2', Nat.le_refl _, Nat.zero_le _, Byts.nil, .inl ⟨rfl, rfl⟩⟩
    · exact ⟨_, cp, h2, h3, h4, Byts.nil, .inr ⟨g, 0, rfl, fun hne => absurd rfl hne⟩⟩
  · obtain ⟨g, cap, hv, _, _, h1, h2⟩ := Own.form (h := h) (by omega)
    have hv' : v = .slice (some ⟨g, 0, none⟩) zs.length cap := hv
    refine ⟨_, cap, hv', h1, h2, hz, .inr ⟨g, 0, rfl, fun _ => ⟨cap, zs, by rw [← hv']; exact List.mem_cons_self .., by omega, by simp⟩⟩⟩
theorem Pc.form {L : List Rw} {v : Value} {zs : List Int} (h : Pc L v zs) : ∃ a k c, v = .slice a k c := by
  obtain ⟨a, c, hv, _⟩ := h
  exact ⟨_, _, _, hv⟩
theorem Pc.byts {L : List Rw} {v : Value} {zs : List Int} (h : Pc L v zs) : Byts zs := by
  obtain ⟨a, c, hv, h1, h2, hz, h3⟩ := h
  exact hz

set_option maxHeartbeats 800000 in
set_option maxRecDepth 100000 in
theorem clone_any (v : Value) (zs : List Int) (w : World) (h : By w v zs) (hl : zs.length ≤ 140737488355328) :
    Calls Tryd.prog 31 #[v] w fun e w' => ∃ v', e = .returned v' ∧ Own w w' [rowU v' zs] := by
  obtain ⟨i0, hi, hz0, hz1, hz2⟩ := info_parts info_u
  have Hy := Lib.hid h
  obtain ⟨hs, hz, a, c, rfl, _, _⟩ := h
  have hnil := Lib.run_eql_slice_nil (P := Tryd.prog) w 22 5 a zs.length c 0 0 Tryd.underlying22
  cases a with
  | none =>
    have hn : zs.length = 0 := by
      rcases hs with ⟨_, h0, _⟩ | ⟨ad, c', hv', _⟩
      · exact h0
      · injection hv' with e1 e2 e3; cases e1
    have hn' : zs = [] := List.eq_nil_of_length_eq_zero hn
    subst hn'
    have hnil : Sem.run Tryd.prog (binOp BinOp.eql 22 (.slice none 0 c) (.slice none 0 0)) w = .ok (.bool true) w := hnil
    clear hs hn hz
    go_enter Tryd.func31, Tryd.ntmps31
    go_wp2_with fail
    go_ret
    exact ⟨_, rfl, (Own.start w).nil _ _⟩
  | some ad =>
    have hnil : Sem.run Tryd.prog (binOp BinOp.eql 22 (.slice (some ad) zs.length c) (.slice none 0 0)) w = .ok (.bool false) w := hnil
    have HO := Lib.hid ((Own.start w).made 5 1 #[] 0 rfl (Nat.zero_le _))
    have Hs := Lib.hid (hs.later (Below.alloc (Below.refl _ w) (Nat.le_refl _) (.cells #[] 5)))
    clear hs hz
    go_enter Tryd.func31, Tryd.ntmps31
    go_wp2_with (at_builtin; refine wpList_append_src rfl (.tmp 5) (.tmp 6) 22 rfl (.slice (some ⟨w.heap.size, 0, none⟩) 0 0) 0 [] (.slice (some ad) zs.length c) zs.length (bs zs) rfl rfl HO.out i0 (.int .u8 0) 1 Tryd.underlying22 hi hz0 hz1 hz2 rfl (by decide) Hs.out (by rw [bs_length, Nat.mul_one]) (by unfold maxLen; omega) (by omega) ?_)
    intro v' w' hO'
    have HO' := Lib.hid hO'
    clear hO'
    go_wp2_with fail
    go_ret
    exact ⟨_, rfl, HO'.out⟩

theorem clone_nil (w : World) : Calls Tryd.prog 31 #[.slice none 0 0] w fun e w' => e = .returned (.slice none 0 0) ∧ w = w' := by
  have hnil := Lib.run_eql_slice_nil (P := Tryd.prog) w 22 5 none 0 0 0 0 Tryd.underlying22
  have hnil : Sem.run Tryd.prog (binOp BinOp.eql 22 (.slice none 0 0) (.slice none 0 0)) w = .ok (.bool true) w := hnil
  go_enter Tryd.func31, Tryd.ntmps31
  go_wp2_with fail
  go_ret
  exact ⟨rfl, rfl⟩
theorem zero_reader (w : World) : Sem.run Tryd.prog (zeroValue 60) w = .ok (.agg #[.slice none 0 0, .bool false]) w := by kernel_rfl
set_option maxHeartbeats 800000 in
theorem rread_any (v : Value) (zs : List Int) (w : World) (h : By w v zs) (hl : zs.length ≤ 140737488355328) :
    Calls Tryd.prog 11 #[v] w fun e w' => ∃ r v', e = .returned (.pointer (some ⟨r, 0, none⟩)) ∧ Own w w' [rowR r v' false, rowU v' zs] ∧ Pc [rowU v' zs] v' zs := by
  have hz := h.2.1
  have Hy := Lib.hid h
  obtain ⟨_, _, a, c, rfl, _, _⟩ := h
  have hzr := zero_reader
  go_enter Tryd.func11, Tryd.ntmps11
  go_wp2_with fail
  refine (clone_any _ zs w Hy.out hl).mono ?_
  rintro e w1 ⟨v1, rfl, hO⟩
  have HO := Lib.hid hO
  obtain ⟨a1, c1, rfl, _, _⟩ := Own.sized (h := hO)
  clear hO
  go_wp2_with fail
  go_ret
  exact ⟨_, _, rfl, HO.out.made 60 2 #[.slice a1 zs.length c1, .bool false] 1 rfl (by unfold maxLen; decide), Pc.all HO.out hz⟩

/-- What a reader's box holds. -/
theorem reader_cells {W0 : Base} {w : World} {r : Nat} {v : Value} {bad : Bool} {L : List Rw} (h : Own W0 w (rowR r v bad :: L)) :
    w.cell? ⟨r, 0, none⟩ = some v ∧ w.cell? ⟨r, 1, none⟩ = some (.bool bad) ∧ w.frozen? ⟨r, 0, none⟩ = false ∧ w.frozen? ⟨r, 1, none⟩ = false :=
  ⟨Own.cell (h := h) 0 (by decide), Own.cell (h := h) 1 (by decide), Own.free (h := h) 0, Own.free (h := h) 1⟩
theorem reader_set0 {W0 : Base} {w : World} {r : Nat} {v : Value} {bad : Bool} {L : List Rw} (h : Own W0 w (rowR r v bad :: L)) (u : Value) : Own W0 (w.setCell ⟨r, 0, none⟩ u) (rowR r u bad :: L) := Own.set (h := h) 0 u
theorem reader_set1 {W0 : Base} {w : World} {r : Nat} {v : Value} {bad : Bool} {L : List Rw} (h : Own W0 w (rowR r v bad :: L)) (b : Bool) : Own W0 (w.setCell ⟨r, 1, none⟩ (.bool b)) (rowR r v b :: L) := Own.set (h := h) 1 (.bool b)

set_option maxHeartbeats 800000 in
theorem spoil_any (W0 : Base) (w : World) (r : Nat) (v : Value) (bad : Bool) (L : List Rw) (h : Own W0 w (rowR r v bad :: L)) :
    Calls Tryd.prog 41 #[.pointer (some ⟨r, 0, none⟩)] w fun e w' => e = .returned (.tuple #[]) ∧ Own W0 w' (rowR r (.slice none 0 0) true :: L) := by
  obtain ⟨c0, c1, f0, f1⟩ := reader_cells h
  have HN := Lib.hid (reader_set1 (reader_set0 h (.slice none 0 0)) true)
  clear h
  go_enter Tryd.func41, Tryd.ntmps41
  go_wp2_with fail
  go_end0
  exact ⟨rfl, HN.out⟩

theorem Pc.head {L : List Rw} {g o c : Nat} {zs : List Int} (h : Pc L (.slice (some ⟨g, o, none⟩) zs.length c) zs) (n : Nat) (hn : n ≤ zs.length) : Pc L (.slice (some ⟨g, o, none⟩) n c) (zs.take n) := by
  obtain ⟨a, c', hv, h1, h2, hz, h3⟩ := h
  injection hv with e1 e2 e3
  subst e1 e3
  have hl : (zs.take n).length = n := by rw [List.length_take]; omega
  refine ⟨_, c, by rw [hl], by omega, h2, hz.take n, ?_⟩
  rcases h3 with ⟨h3, _⟩ | ⟨g', o', ha, h3⟩
  · cases h3
  · injection ha with ha
    injection ha with e1 e2 e3
    subst e1 e2
    refine .inr ⟨g, o, rfl, fun hne => ?_⟩
    obtain ⟨cap, ys, hm, h4, h5⟩ := h3 (by intro e; subst e; simp at hne)
    refine ⟨cap, ys, hm, by omega, ?_⟩
    rw [hl]
    conv => lhs; rw [h5]
    rw [List.take_take, Nat.min_eq_left hn]
theorem Pc.rest {L : List Rw} {g o c : Nat} {zs : List Int} (h : Pc L (.slice (some ⟨g, o, none⟩) zs.length c) zs) (n k : Nat) (hn : n ≤ zs.length) (hk : k = zs.length - n) : Pc L (.slice (some ⟨g, o + n, none⟩) k (c - n)) (zs.drop n) := by
  subst hk
  obtain ⟨a, c', hv, h1, h2, hz, h3⟩ := h
  injection hv with e1 e2 e3
  subst e1 e3
  have hl : (zs.drop n).length = zs.length - n := List.length_drop
  refine ⟨_, c - n, by rw [hl], by omega, by omega, hz.drop n, ?_⟩
  rcases h3 with ⟨h3, _⟩ | ⟨g', o', ha, h3⟩
  · cases h3
  · injection ha with ha
    injection ha with e1 e2 e3
    subst e1 e2
    refine .inr ⟨g, o + n, rfl, fun hne => ?_⟩
    obtain ⟨cap, ys, hm, h4, h5⟩ := h3 (by intro e; subst e; simp at hne)
    refine ⟨cap, ys, hm, by omega, ?_⟩
    rw [hl]
    conv => lhs; rw [h5]
    rw [List.drop_take, List.drop_drop]
theorem Pc.empty (L : List Rw) (g o c : Nat) (hc : c ≤ maxLen) : Pc L (.slice (some ⟨g, o, none⟩) 0 c) [] := ⟨_, c, rfl, Nat.zero_le _, hc, Byts.nil, .inr ⟨g, o, rfl, fun h => absurd rfl h⟩⟩

set_option maxHeartbeats 800000 in
theorem take_no (W0 : Base) (w : World) (r : Nat) (v : Value) (bad : Bool) (L : List Rw) (zs : List Int) (n : Int) (h : Own W0 w (rowR r v bad :: L)) (hp : Pc L v zs) (hn : (zs.length : Int) < n) :
    Calls Tryd.prog 40 #[.pointer (some ⟨r, 0, none⟩), .int .i64 n] w fun e w' => e = .returned (.tuple #[.slice none 0 0, .bool false]) ∧ Own W0 w' (rowR r (.slice none 0 0) true :: L) := by
  obtain ⟨a, c, rfl, _⟩ := hp
  obtain ⟨c0, c1, f0, f1⟩ := reader_cells h
  have H := Lib.hid h
  clear h
  go_enter Tryd.func40, Tryd.ntmps40
  go_wp2_with fail
  refine (spoil_any W0 w r _ bad L H.out).mono ?_
  rintro e w1 ⟨rfl, hO⟩
  have HO := Lib.hid hO
  clear hO c0 c1 f0 f1
  go_wp2_with fail
  go_ret2
  exact ⟨rfl, HO.out⟩
set_option maxHeartbeats 1600000 in
theorem take_yes (W0 : Base) (w : World) (r : Nat) (v : Value) (bad : Bool) (L : List Rw) (zs : List Int) (n : Nat) (h : Own W0 w (rowR r v bad :: L)) (hp : Pc L v zs) (hn : n ≤ zs.length) :
    Calls Tryd.prog 40 #[.pointer (some ⟨r, 0, none⟩), .int .i64 (n : Int)] w fun e w' => ∃ v1 v2, e = .returned (.tuple #[v1, .bool true]) ∧ Own W0 w' (rowR r v2 bad :: L) ∧ Pc L v1 (zs.take n) ∧ Pc L v2 (zs.drop n) := by
  have Hp := Lib.hid hp
  obtain ⟨a, c, rfl, hzc, hcm, _, h3⟩ := hp
  unfold maxLen at hcm
  obtain ⟨c0, c1, f0, f1⟩ := reader_cells h
  rcases h3 with ⟨rfl, rfl⟩ | ⟨g, o, rfl, _⟩
  · have hz : zs = [] := List.eq_nil_of_length_eq_zero (by omega)
    subst hz
    obtain rfl : n = 0 := by simpa using hn
    have HN := Lib.hid (reader_set0 h (.slice none 0 0))
    clear h hn
    go_enter Tryd.func40, Tryd.ntmps40
    go_wp2_with fail
    go_ret2
    exact ⟨_, _, rfl, HN.out, Pc.nil L, Pc.nil L⟩
  · by_cases hcn : c = n
    · subst hcn
      have hzn : zs.length = c := by omega
      have hd : zs.drop c = [] := List.drop_of_length_le (by omega)
      have HN := Lib.hid (reader_set0 h (.slice (some ⟨g, o, none⟩) 0 0))
      have Hd := Lib.hid hd
      have Hzn := Lib.hid hzn
      clear h hd hzn
      go_enter Tryd.func40, Tryd.ntmps40
      go_wp2_with fail
      go_ret2
      have hp1 := Hp.out.head c (by omega)
      exact ⟨_, _, rfl, HN.out, hp1, by rw [Hd.out]; exact Pc.empty L g o 0 (Nat.zero_le _)⟩
    · have HN := Lib.hid (reader_set0 h (.slice (some ⟨g, o + n, none⟩) (zs.length - n) (c - n)))
      clear h
      go_enter Tryd.func40, Tryd.ntmps40
      go_wp2_with fail
      go_ret2
      exact ⟨_, _, rfl, HN.out, Hp.out.head n hn, Hp.out.rest n _ hn rfl⟩

/-- The number that four bytes are. -/
def num4 (zs : List Int) : Int := zs.getD 0 0 + 256 * zs.getD 1 0 + 65536 * zs.getD 2 0 + 16777216 * zs.getD 3 0
theorem num4_bounds (zs : List Int) (h : Byts zs) : 0 ≤ num4 zs ∧ num4 zs < 4294967296 := by
  have hb : ∀ i, 0 ≤ zs.getD i 0 ∧ zs.getD i 0 < 256 := by
    intro i
    rw [List.getD_eq_getElem?_getD]
    cases hi : zs[i]? with
    | none => exact ⟨by decide, by decide⟩
    | some z => exact h z (List.mem_of_getElem? hi)
  have h0 := hb 0; have h1 := hb 1; have h2 := hb 2; have h3 := hb 3
  unfold num4
  omega
theorem num4_take (zs : List Int) (h : 4 ≤ zs.length) : num4 (zs.take 4) = num4 zs := by
  unfold num4
  simp [List.getD_eq_getElem?_getD, List.getElem?_take]

theorem i64_or_nat (a b : Nat) (ha : a < 4611686018427387904) (hb : b < 4611686018427387904) : bits .or .i64 (a : Int) (b : Int) = ((a ||| b : Nat) : Int) := by
  have hx : a ||| b < 2 ^ 62 := Nat.or_lt_two_pow (by omega) (by omega)
  have h1 : (BitVec.ofInt 64 (a : Int)).toNat = a := by
    rw [BitVec.ofInt_natCast, BitVec.toNat_ofNat]; exact Nat.mod_eq_of_lt (by omega)
  have h2 : (BitVec.ofInt 64 (b : Int)).toNat = b := by
    rw [BitVec.ofInt_natCast, BitVec.toNat_ofNat]; exact Nat.mod_eq_of_lt (by omega)
  show IntKind.i64.wrap ((BitVec.ofInt 64 (a : Int) ||| BitVec.ofInt 64 (b : Int)).toNat : Int) = _
  rw [BitVec.toNat_or, h1, h2, IntKind.wrap_i64]
  omega
theorem or_join (i : Nat) (m : Nat) (hm : m = 2 ^ i) (x y : Int) (h0 : 0 ≤ x) (h1 : x < (m : Int)) (h2 : 0 ≤ y) (h3 : y < 256) (h4 : (m : Int) ≤ 16777216) : bits .or .i64 x (y * (m : Int)) = x + y * (m : Int) := by
  obtain ⟨X, rfl⟩ := Int.eq_ofNat_of_zero_le h0
  obtain ⟨Y, rfl⟩ := Int.eq_ofNat_of_zero_le h2
  have hY : Y * m ≤ 256 * m := Nat.mul_le_mul_right _ (by omega)
  rw [show ((Y : Int) * (m : Int)) = ((Y * m : Nat) : Int) from by simp, i64_or_nat X (Y * m) (by omega) (by omega), Nat.or_comm, nat_join i (Y * m) X (by rw [hm]; exact Nat.mul_mod_left _ _) (by omega)]
  omega
theorem or_four (z0 z1 z2 z3 : Int) (b0 : 0 ≤ z0 ∧ z0 < 256) (b1 : 0 ≤ z1 ∧ z1 < 256) (b2 : 0 ≤ z2 ∧ z2 < 256) (b3 : 0 ≤ z3 ∧ z3 < 256) :
    bits .or .i64 (bits .or .i64 (bits .or .i64 z0 (z1 * 256)) (z2 * 65536)) (z3 * 16777216) = num4 [z0, z1, z2, z3] := by
  have e1 := or_join 8 256 rfl z0 z1 b0.1 (by omega) b1.1 b1.2 (by decide)
  have e2 := or_join 16 65536 rfl (z0 + z1 * 256) z2 (by omega) (by omega) b2.1 b2.2 (by decide)
  have e3 := or_join 24 16777216 rfl (z0 + z1 * 256 + z2 * 65536) z3 (by omega) (by omega) b3.1 b3.2 (by decide)
  simp only [Int.cast_ofNat_Int] at e1 e2 e3
  rw [e1, e2, e3]
  simp [num4]
  omega

set_option maxHeartbeats 1600000 in
theorem number_short (W0 : Base) (w : World) (r : Nat) (v : Value) (bad : Bool) (L : List Rw) (zs : List Int) (most : Int) (h : Own W0 w (rowR r v bad :: L)) (hp : Pc L v zs) (hn : zs.length < 4) :
    Calls Tryd.prog 32 #[.pointer (some ⟨r, 0, none⟩), .int .i64 most] w fun e w' => e = .returned (.tuple #[.int .i64 0, .bool false]) ∧ Own W0 w' (rowR r (.slice none 0 0) true :: L) := by
  have Hp := Lib.hid hp
  have H := Lib.hid h
  clear h hp
  go_enter Tryd.func32, Tryd.ntmps32
  go_wp2_with fail
  refine (take_no W0 w r v bad L zs 4 H.out Hp.out (by omega)).mono ?_
  rintro e w1 ⟨rfl, hO⟩
  have HO := Lib.hid hO
  clear hO
  go_wp2_with fail
  go_ret2
  exact ⟨rfl, HO.out⟩
set_option maxHeartbeats 1600000 in
theorem number_yes (W0 : Base) (w : World) (r : Nat) (v : Value) (bad : Bool) (L : List Rw) (zs : List Int) (most : Int) (h : Own W0 w (rowR r v bad :: L)) (hp : Pc L v zs) (hn : 4 ≤ zs.length) (hm : num4 zs ≤ most) :
    Calls Tryd.prog 32 #[.pointer (some ⟨r, 0, none⟩), .int .i64 most] w fun e w' => ∃ v', e = .returned (.tuple #[.int .i64 (num4 zs), .bool true]) ∧ Own W0 w' (rowR r v' bad :: L) ∧ Pc L v' (zs.drop 4) := by
  have hz4 := num4_take zs hn
  have hnb := num4_bounds zs hp.byts
  obtain ⟨n, hn4⟩ : ∃ n, num4 zs = n := ⟨_, rfl⟩
  rw [hn4] at hm hz4 hnb ⊢
  have Hz4 := Lib.hid hz4
  clear hn4 hz4
  have Hp := Lib.hid hp
  have H := Lib.hid h
  clear h hp
  go_enter Tryd.func32, Tryd.ntmps32
  go_wp2_with fail
  refine (take_yes W0 w r v bad L zs 4 H.out Hp.out hn).mono ?_
  rintro e w1 ⟨v1, v2, rfl, hO, hp1, hp2⟩
  have HO := Lib.hid hO
  have Hp2 := Lib.hid hp2
  obtain ⟨g, o, c, rfl, _, _, hc⟩ := (hp1.by hO.tail).cells (by rw [List.length_take]; omega)
  have hl4 : (zs.take 4).length = 4 := by rw [List.length_take]; omega
  have hby := hp1.byts
  generalize zs.take 4 = ys at *
  obtain ⟨z0, z1, z2, z3, rfl⟩ : ∃ z0 z1 z2 z3, ys = [z0, z1, z2, z3] := by
    match ys, hl4 with
    | [a, b, c, d], _ => exact ⟨a, b, c, d, rfl⟩
  have k0 := hc 0 (by simp)
  have k1 := hc 1 (by simp)
  have k2 := hc 2 (by simp)
  have k3 := hc 3 (by simp)
  simp only [List.getElem_cons_zero, List.getElem_cons_succ, Nat.add_zero] at k0 k1 k2 k3
  have b0 := hby z0 (by simp)
  have b1 := hby z1 (by simp)
  have b2 := hby z2 (by simp)
  have b3 := hby z3 (by simp)
  clear hO hp1 hp2 hc hby
  clear hl4
  go_wp2_with fail
  go_quiet (fail)
  rw [or_four z0 z1 z2 z3 b0 b1 b2 b3, Hz4.out]
  clear k0 k1 k2 k3 b0 b1 b2 b3
  go_wp2_with fail
  go_ret2
  exact ⟨_, rfl, HO.out.drewN, Hp2.out⟩
set_option maxHeartbeats 1600000 in
theorem number_big (W0 : Base) (w : World) (r : Nat) (v : Value) (bad : Bool) (L : List Rw) (zs : List Int) (most : Int) (h : Own W0 w (rowR r v bad :: L)) (hp : Pc L v zs) (hn : 4 ≤ zs.length) (hm : most < num4 zs) :
    Calls Tryd.prog 32 #[.pointer (some ⟨r, 0, none⟩), .int .i64 most] w fun e w' => e = .returned (.tuple #[.int .i64 0, .bool false]) ∧ Own W0 w' (rowR r (.slice none 0 0) true :: L) := by
  have hz4 := num4_take zs hn
  have hnb := num4_bounds zs hp.byts
  obtain ⟨n, hn4⟩ : ∃ n, num4 zs = n := ⟨_, rfl⟩
  rw [hn4] at hm hz4 hnb
  have Hz4 := Lib.hid hz4
  clear hn4 hz4
  have Hp := Lib.hid hp
  have H := Lib.hid h
  clear h hp
  go_enter Tryd.func32, Tryd.ntmps32
  go_wp2_with fail
  refine (take_yes W0 w r v bad L zs 4 H.out Hp.out hn).mono ?_
  rintro e w1 ⟨v1, v2, rfl, hO, hp1, hp2⟩
  have HO := Lib.hid hO
  obtain ⟨g, o, c, rfl, _, _, hc⟩ := (hp1.by hO.tail).cells (by rw [List.length_take]; omega)
  have hl4 : (zs.take 4).length = 4 := by rw [List.length_take]; omega
  have hby := hp1.byts
  generalize zs.take 4 = ys at *
  obtain ⟨z0, z1, z2, z3, rfl⟩ : ∃ z0 z1 z2 z3, ys = [z0, z1, z2, z3] := by
    match ys, hl4 with
    | [a, b, c, d], _ => exact ⟨a, b, c, d, rfl⟩
  have k0 := hc 0 (by simp)
  have k1 := hc 1 (by simp)
  have k2 := hc 2 (by simp)
  have k3 := hc 3 (by simp)
  simp only [List.getElem_cons_zero, List.getElem_cons_succ, Nat.add_zero] at k0 k1 k2 k3
  have b0 := hby z0 (by simp)
  have b1 := hby z1 (by simp)
  have b2 := hby z2 (by simp)
  have b3 := hby z3 (by simp)
  clear hO hp1 hp2 hc hby
  clear hl4
  go_wp2_with fail
  go_quiet (fail)
  rw [or_four z0 z1 z2 z3 b0 b1 b2 b3, Hz4.out]
  clear k0 k1 k2 k3 b0 b1 b2 b3
  go_wp2_with fail
  refine (spoil_any W0 _ r _ bad L HO.out.drewN).mono ?_
  rintro e w2 ⟨rfl, hO2⟩
  have HO2 := Lib.hid hO2
  clear hO2
  go_wp2_with fail
  go_ret2
  exact ⟨rfl, HO2.out⟩

/-- Is there a part that is as many bytes as it says, at most so many? -/
def isSized (zs : List Int) (most : Int) : Prop := 4 ≤ zs.length ∧ num4 zs ≤ most ∧ num4 zs ≤ (zs.length : Int) - 4
def bodyOf (zs : List Int) : List Int := (zs.drop 4).take (num4 zs).toNat
def restOf (zs : List Int) : List Int := (zs.drop 4).drop (num4 zs).toNat

set_option maxHeartbeats 1600000 in
theorem sized_yes (W0 : Base) (w : World) (r : Nat) (v : Value) (bad : Bool) (L : List Rw) (zs : List Int) (most : Int) (h : Own W0 w (rowR r v bad :: L)) (hp : Pc L v zs) (hs : isSized zs most) :
    Calls Tryd.prog 33 #[.pointer (some ⟨r, 0, none⟩), .int .i64 most] w fun e w' => ∃ v1 v2, e = .returned (.tuple #[v1, .bool true]) ∧ Own W0 w' (rowR r v2 bad :: L) ∧ Pc L v1 (bodyOf zs) ∧ Pc L v2 (restOf zs) := by
  have Hp := Lib.hid hp
  have H := Lib.hid h
  obtain ⟨s1, s2, s3⟩ := hs
  have hb := num4_bounds zs hp.byts
  obtain ⟨n, hn⟩ : ∃ n : Nat, num4 zs = n := ⟨(num4 zs).toNat, by omega⟩
  unfold bodyOf restOf
  rw [hn] at s2 s3 hb ⊢
  rw [Int.toNat_natCast]
  have Hn := Lib.hid hn
  clear h hp hn
  go_enter Tryd.func33, Tryd.ntmps33
  go_wp2_with fail
  refine (number_yes W0 w r v bad L zs most H.out Hp.out s1 (by rw [Hn.out]; exact s2)).mono ?_
  rintro e w1 ⟨v1, rfl, hO, hp1⟩
  rw [Hn.out]
  have HO := Lib.hid hO
  have Hp1 := Lib.hid hp1
  clear hO hp1
  go_wp2_with fail
  refine (take_yes W0 w1 r v1 bad L _ n HO.out Hp1.out (by rw [List.length_drop]; omega)).mono ?_
  rintro e w2 ⟨v2, v3, rfl, hO2, hp2, hp3⟩
  have HO2 := Lib.hid hO2
  have Hp2 := Lib.hid hp2
  have Hp3 := Lib.hid hp3
  obtain ⟨a2, k2, c2, rfl⟩ := hp2.form
  clear hO2 hp2 hp3
  go_wp2_with fail
  go_ret2
  exact ⟨_, _, rfl, HO2.out, Hp2.out, Hp3.out⟩
set_option maxHeartbeats 1600000 in
theorem sized_no (W0 : Base) (w : World) (r : Nat) (v : Value) (bad : Bool) (L : List Rw) (zs : List Int) (most : Int) (h : Own W0 w (rowR r v bad :: L)) (hp : Pc L v zs) (hs : ¬ isSized zs most) :
    Calls Tryd.prog 33 #[.pointer (some ⟨r, 0, none⟩), .int .i64 most] w fun e w' => e = .returned (.tuple #[.slice none 0 0, .bool false]) ∧ Own W0 w' (rowR r (.slice none 0 0) true :: L) := by
  have Hp := Lib.hid hp
  have H := Lib.hid h
  by_cases s1 : 4 ≤ zs.length ∧ num4 zs ≤ most
  · have s3 : ¬ num4 zs ≤ (zs.length : Int) - 4 := fun s3 => hs ⟨s1.1, s1.2, s3⟩
    have S := Lib.hid s1
    obtain ⟨n, hn⟩ : ∃ n, num4 zs = n := ⟨_, rfl⟩
    rw [hn] at s3
    have Hn := Lib.hid hn
    have hl : ((zs.drop 4).length : Int) < n := by rw [List.length_drop]; have := s1.1; omega
    have Hl := Lib.hid hl
    clear h hp hn hl s1 s3 hs
    go_enter Tryd.func33, Tryd.ntmps33
    go_wp2_with fail
    refine (number_yes W0 w r v bad L zs most H.out Hp.out S.out.1 S.out.2).mono ?_
    rintro e w1 ⟨v1, rfl, hO, hp1⟩
    rw [Hn.out]
    have HO := Lib.hid hO
    have Hp1 := Lib.hid hp1
    clear hO hp1
    go_wp2_with fail
    refine (take_no W0 w1 r v1 bad L _ n HO.out Hp1.out Hl.out).mono ?_
    rintro e w2 ⟨rfl, hO2⟩
    have HO2 := Lib.hid hO2
    clear hO2
    go_wp2_with fail
    go_ret2
    exact ⟨rfl, HO2.out⟩
  · have hno : Calls Tryd.prog 32 #[.pointer (some ⟨r, 0, none⟩), .int .i64 most] w fun e w' => e = .returned (.tuple #[.int .i64 0, .bool false]) ∧ Own W0 w' (rowR r (.slice none 0 0) true :: L) := by
      by_cases s2 : 4 ≤ zs.length
      · exact number_big W0 w r v bad L zs most h hp s2 (by have : ¬ num4 zs ≤ most := fun h => s1 ⟨s2, h⟩; omega)
      · exact number_short W0 w r v bad L zs most h hp (by omega)
    have Hno := Lib.hid hno
    clear h hp s1 hs hno
    go_enter Tryd.func33, Tryd.ntmps33
    go_wp2_with fail
    refine Hno.out.mono ?_
    rintro e w1 ⟨rfl, hO⟩
    have HO := Lib.hid hO
    clear hO
    go_wp2_with fail
    go_ret2
    exact ⟨rfl, HO.out⟩

theorem bodyOf_length (zs : List Int) (most : Int) (h : isSized zs most) (hz : Byts zs) : ((bodyOf zs).length : Int) = num4 zs := by
  obtain ⟨h1, _, h3⟩ := h
  have := num4_bounds zs hz
  unfold bodyOf
  rw [List.length_take, List.length_drop]
  omega

set_option maxHeartbeats 1600000 in
theorem rnum_any (W0 : Base) (w : World) (r : Nat) (v : Value) (bad : Bool) (L : List Rw) (zs : List Int) (most : Int) (h : Own W0 w (rowR r v bad :: L)) (hp : Pc L v zs) (hs : 4 ≤ zs.length ∧ num4 zs ≤ most) :
    Calls Tryd.prog 12 #[.pointer (some ⟨r, 0, none⟩), .int .i64 most] w fun e w' => ∃ v', e = .returned (.int .i64 (num4 zs)) ∧ Own W0 w' (rowR r v' bad :: L) ∧ Pc L v' (zs.drop 4) := by
  have Hc := Lib.hid (number_yes W0 w r v bad L zs most h hp hs.1 hs.2)
  clear h hp hs
  go_enter Tryd.func12, Tryd.ntmps12
  go_wp2_with fail
  refine Hc.out.mono ?_
  rintro e w1 ⟨v1, rfl, hO, hp1⟩
  have HO := Lib.hid hO
  have Hp1 := Lib.hid hp1
  clear hO hp1
  go_wp2_with fail
  go_ret
  exact ⟨_, rfl, HO.out, Hp1.out⟩
theorem number_no (W0 : Base) (w : World) (r : Nat) (v : Value) (bad : Bool) (L : List Rw) (zs : List Int) (most : Int) (h : Own W0 w (rowR r v bad :: L)) (hp : Pc L v zs) (hs : ¬ (4 ≤ zs.length ∧ num4 zs ≤ most)) :
    Calls Tryd.prog 32 #[.pointer (some ⟨r, 0, none⟩), .int .i64 most] w fun e w' => e = .returned (.tuple #[.int .i64 0, .bool false]) ∧ Own W0 w' (rowR r (.slice none 0 0) true :: L) := by
  by_cases s2 : 4 ≤ zs.length
  · exact number_big W0 w r v bad L zs most h hp s2 (by have : ¬ num4 zs ≤ most := fun h => hs ⟨s2, h⟩; omega)
  · exact number_short W0 w r v bad L zs most h hp (by omega)
set_option maxHeartbeats 1600000 in
theorem rnum_no (W0 : Base) (w : World) (r : Nat) (v : Value) (bad : Bool) (L : List Rw) (zs : List Int) (most : Int) (h : Own W0 w (rowR r v bad :: L)) (hp : Pc L v zs) (hs : ¬ (4 ≤ zs.length ∧ num4 zs ≤ most)) :
    Calls Tryd.prog 12 #[.pointer (some ⟨r, 0, none⟩), .int .i64 most] w fun e w' => e = .returned (.int .i64 0) ∧ Own W0 w' (rowR r (.slice none 0 0) true :: L) := by
  have Hc := Lib.hid (number_no W0 w r v bad L zs most h hp hs)
  clear h hp hs
  go_enter Tryd.func12, Tryd.ntmps12
  go_wp2_with fail
  refine Hc.out.mono ?_
  rintro e w1 ⟨rfl, hO⟩
  have HO := Lib.hid hO
  clear hO
  go_wp2_with fail
  go_ret
  exact ⟨rfl, HO.out⟩

theorem By.toStr {w : World} {v : Value} {zs : List Int} (h : By w v zs) : (convert 22 9 v).run Tryd.prog w = .ok (.string (strOfNums zs)) w := by
  by_cases hn : 0 < zs.length
  · obtain ⟨g, o, c, rfl, _, _, hc⟩ := h.cells hn
    refine run_convert_bytes_arg w 22 5 Tryd.underlying22 Tryd.underlying5 g o zs.length c zs rfl (fun i hi => ?_) 9 Tryd.underlying9
    rw [hc i hi, List.getD_eq_getElem?_getD, List.getElem?_eq_getElem hi]
    rfl
  · have hz : zs = [] := List.eq_nil_of_length_eq_zero (by omega)
    subst hz
    rcases h.1 with ⟨rfl, _, _⟩ | ⟨ad, c, rfl, _⟩
    · exact run_convert_bytes_nil w 22 5 Tryd.underlying22 Tryd.underlying5 0 0 9 Tryd.underlying9
    · have := run_convert_bytes_back w 22 9 5 ad c [] Tryd.underlying22 Tryd.underlying5 Tryd.underlying9 (fun j hj => by simp at hj)
      exact this
set_option maxHeartbeats 1600000 in
theorem rtext_yes (W0 : Base) (w : World) (r : Nat) (v : Value) (bad : Bool) (L : List Rw) (zs : List Int) (most : Int) (h : Own W0 w (rowR r v bad :: L)) (hp : Pc L v zs) (hs : isSized zs most) :
    Calls Tryd.prog 15 #[.pointer (some ⟨r, 0, none⟩), .int .i64 most] w fun e w' => ∃ v2, e = .returned (.string (strOfNums (bodyOf zs))) ∧ Own W0 w' (rowR r v2 bad :: L) ∧ Pc L v2 (restOf zs) := by
  have Hc := Lib.hid (sized_yes W0 w r v bad L zs most h hp hs)
  clear h hp hs
  go_enter Tryd.func15, Tryd.ntmps15
  go_wp2_with fail
  refine Hc.out.mono ?_
  rintro e w1 ⟨v1, v2, rfl, hO, hp1, hp2⟩
  have HO := Lib.hid hO
  have Hp2 := Lib.hid hp2
  have hcv := (hp1.by hO.tail).toStr
  obtain ⟨a1, k1, c1, rfl⟩ := hp1.form
  clear hO hp1 hp2
  go_wp2_with fail
  go_ret
  exact ⟨_, rfl, HO.out, Hp2.out⟩

set_option maxHeartbeats 1600000 in
theorem rlist_yes (W0 : Base) (w : World) (r : Nat) (v : Value) (bad : Bool) (L : List Rw) (zs : List Int) (h : Own W0 w (rowR r v bad :: L)) (hp : Pc L v zs) (hs : isSized zs 16777216) :
    Calls Tryd.prog 13 #[.pointer (some ⟨r, 0, none⟩)] w fun e w' => ∃ r2 v1 v2, e = .returned (.pointer (some ⟨r2, 0, none⟩)) ∧ Own W0 w' (rowR r2 v1 false :: rowR r v2 bad :: L) ∧ Pc L v1 (bodyOf zs) ∧ Pc L v2 (restOf zs) := by
  have Hc := Lib.hid (sized_yes W0 w r v bad L zs 16777216 h hp hs)
  have hzr := zero_reader
  clear h hp hs
  go_enter Tryd.func13, Tryd.ntmps13
  go_wp2_with fail
  refine Hc.out.mono ?_
  rintro e w1 ⟨v1, v2, rfl, hO, hp1, hp2⟩
  have HO := Lib.hid hO
  have Hp1 := Lib.hid hp1
  have Hp2 := Lib.hid hp2
  obtain ⟨a1, k1, c1, rfl⟩ := hp1.form
  clear hO hp1 hp2
  go_wp2_with fail
  go_ret
  exact ⟨_, _, _, rfl, HO.out.made 60 2 #[.slice a1 k1 c1, .bool false] 1 rfl (by unfold maxLen; decide), Hp1.out, Hp2.out⟩

set_option maxHeartbeats 1600000 in
theorem more_any (W0 : Base) (w : World) (r : Nat) (v : Value) (bad : Bool) (L : List Rw) (zs : List Int) (h : Own W0 w (rowR r v bad :: L)) (hp : Pc L v zs) :
    Calls Tryd.prog 14 #[.pointer (some ⟨r, 0, none⟩)] w fun e w' => e = .returned (.bool (decide (0 < zs.length))) ∧ w = w' := by
  obtain ⟨c0, c1, f0, f1⟩ := reader_cells h
  obtain ⟨a, c, rfl, _⟩ := hp
  clear h
  go_enter Tryd.func14, Tryd.ntmps14
  go_wp2_with fail
  go_ret
  exact ⟨by simp, rfl⟩
end Go.Proofs.YtjhaihckbmkiaaaDoor
