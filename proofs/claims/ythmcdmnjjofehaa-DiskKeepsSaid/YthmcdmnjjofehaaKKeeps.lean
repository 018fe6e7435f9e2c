/- 'DiskKeeps': for whatever acts the law returns true, and writes nothing that was there. -/
import Derived.Test.YthmcdmnjjofehaaKMaps2
import Derived.LoopTactic
import Derived.IntWalk
namespace Go.Proofs.Ythmcdmnjjofehaa
open Go.RowKit
open Go.Maps (Keyed IsMap int_keyed keyOf_int_mk atKey_put_same atKey_put_other)
set_option linter.unusedVariables false
set_option linter.unusedSimpArgs false

theorem and_mask (q : Int) (c : Nat) (hc : c < 4294967296) : ∃ m : Nat, bits .and .i64 q (c : Int) = (m : Int) ∧ m ≤ c := by
  refine ⟨((BitVec.ofInt 64 q) &&& BitVec.ofInt 64 (c : Int)).toNat, ?_, ?_⟩
  · show IntKind.i64.wrap ((BitVec.ofInt 64 q &&& BitVec.ofInt 64 (c : Int)).toNat : Int) = _
    have h : ((BitVec.ofInt 64 q) &&& BitVec.ofInt 64 (c : Int)).toNat ≤ c := by
      rw [BitVec.toNat_and, BitVec.ofInt_natCast, BitVec.toNat_ofNat, Nat.mod_eq_of_lt (by omega)]; exact Nat.and_le_right
    exact IntWalk.i64_in _ (by omega)
  · rw [BitVec.toNat_and, BitVec.ofInt_natCast, BitVec.toNat_ofNat, Nat.mod_eq_of_lt (by omega)]; exact Nat.and_le_right

/-- What a write makes of a disk of four sectors with power. -/

def secB2 (b : Int) : List Value := .int .u8 b :: .int .u8 1 :: List.replicate 62 (.int .u8 0)
theorem secB2_sec (b : Int) : isSec (secB2 b) := ⟨rfl, by intro v hv; rcases List.mem_cons.1 hv with rfl | hv; rfl; rcases List.mem_cons.1 hv with rfl | hv; rfl; rw [(List.mem_replicate.1 hv).2]; rfl⟩
theorem built_secB2 (b : Int) : Try.prog.built 39 [(0, .int .u8 b), (1, .int .u8 1)] = some (secB2 b).toArray := by kernel_rfl
theorem secB2_by (b : Int) (hb : (Lit.int .u8 b).wf = true) : byteSec (secB2 b) := fun v hv => by
  rcases List.mem_cons.1 hv with rfl | hv
  · exact ⟨b, rfl, hb⟩
  · rcases List.mem_cons.1 hv with rfl | hv
    · exact ⟨1, rfl, by decide⟩
    · exact ⟨0, (List.mem_replicate.1 hv).2, by decide⟩
theorem flush_up (D : Dk) (hd : D.down = false) (hl : D.left = 0) : flushM D = (settleM { D with steps := D.steps + 1 } 18446744073709551615, 0) := by
  unfold flushM stepM
  rw [hd]
  simp [hl]
theorem write_up (D : Dk) (hd : D.down = false) (hl : D.left = 0) (x : Int) (s : List Value) :
    ((writeM D x s).2 = 0 ∧ ∃ k : Nat, x = (k : Int) ∧ k < D.last.length ∧ writeM D x s = ({ putM D k s with steps := D.steps + 1 }, 0)) ∨ ((writeM D x s).2 = 2 ∧ (writeM D x s).1 = D) := by
  by_cases h : x < 0 ∨ (D.last.length : Int) ≤ x
  · right
    have : refusedM D x = 2 := by unfold refusedM; rw [hd, if_neg (by decide), if_pos h]
    unfold writeM
    rw [this]; exact ⟨rfl, rfl⟩
  · left
    have : refusedM D x = 0 := by unfold refusedM; rw [hd, if_neg (by decide), if_neg h]
    have e : writeM D x s = ({ putM D x.toNat s with steps := D.steps + 1 }, 0) := by
      unfold writeM stepM
      rw [this, if_neg (by decide), if_pos (show (putM D x.toNat s).left = 0 from hl)]
      rfl
    exact ⟨by rw [e], x.toNat, by omega, by omega, e⟩
theorem May.add' {w w' : World} {b0 n0 bn : Nat} {bs : List Nat} {DS : List (DataW Unit)} {D Dn : DataW Unit} (h : May w b0 bs DS n0 1) (hbn : bn ∉ b0 :: bs)
    (hin : w'.ownsMap (H := Unit) Try.prog 39 (plainElem Try.prog 3) bn 1 Dn) (hsame : ∀ b ∈ bs, w'.heap[b]? = w.heap[b]?) (h1 : w.ownsMap Try.prog 3 rdMap b0 n0 D)
    (hout : w'.ownsMap Try.prog 3 rdMap b0 (n0 + 1) (D.put (.int .i64 (bs.length : Int)) (.lit (.int .i64 (bn : Int))))) :
    May w' b0 (bs ++ [bn]) (DS ++ [Dn]) (n0 + 1) 1 := by
  refine h.add hbn hin hsame fun D' h1' => ?_
  obtain ⟨es, cl, e1, _, _, rfl⟩ := h1
  obtain ⟨es', cl', e2, _, _, rfl⟩ := h1'
  rw [e1] at e2
  cases e2
  exact hout
theorem run_mk (t : TypeId) (w : World) : Sem.run Try.prog (Instr.makeMap t none) w = .ok (.map (some w.heap.size)) (w.alloc (.map #[] 0)) := by
  simp [Instr.makeMap, newObj]
  rfl
def WrK (w : World) (d n0 len : Nat) (t : Value) (wr : World) : Prop := ∃ (i : Nat) (D : Dk), t = .int .i64 i ∧ i ≤ len ∧ DkAt w wr d D [] ∧ D.down = false ∧ D.left = 0 ∧ D.last.length = n0 ∧ D.steps ≤ (i : Int) ∧ D.since.length ≤ i ∧ D.By ∧ D.Even
def MkK (w : World) (d n0 b0 : Nat) (D : Dk) (t : Value) (wr : World) : Prop := ∃ (x : Nat) (ms : List (Nat × Obj)) (bs : List Nat) (DS : List (DataW Unit)), t = .int .i64 x ∧ x ≤ n0 ∧ DkAt ⟨w, ms⟩ wr d D [] ∧ (∀ b ∈ b0 :: bs, b ∈ ms.map (·.1)) ∧ May wr b0 bs DS x 1 ∧ bs.length = x ∧ ∀ k s, k < x → D.last[k]? = some s → mayBe DS k s
def BhK (w : World) (d n0 b0 len : Nat) (s0 : Int) (bs : List Nat) (t : Value) (wr : World) : Prop := ∃ (x : Nat) (D : Dk) (ms : List (Nat × Obj)) (DS : List (DataW Unit)), t = .int .i64 x ∧ x ≤ len ∧ DkAt ⟨w, ms⟩ wr d D [] ∧ (∀ b ∈ b0 :: bs, b ∈ ms.map (·.1)) ∧ May wr b0 bs DS n0 (1 + x) ∧ D.down = false ∧ D.left = 0 ∧ D.last.length = n0 ∧ D.steps ≤ s0 + (x : Int) ∧ D.since.length ≤ x ∧ D.In (mayBe DS)
def EdK (w : World) (d n0 b0 c : Nat) (ms : List (Nat × Obj)) (D : Dk) (bs : List Nat) (DS : List (DataW Unit)) (t : Value) (wr : World) : Prop := ∃ (x : Nat), t = .int .i64 x ∧ x ≤ n0 ∧ DkAt ⟨w, ms⟩ wr d D [] ∧ May wr b0 bs DS n0 c
attribute [local go_sem ↓] wp_load_sec Go.wp_at_zero Go.wp_at_succ

set_option maxHeartbeats 3200000 in
set_option maxRecDepth 100000 in
theorem keeps_any (n keeps : Int) (a1 a2 : Option Addr) (len1 cap1 len2 cap2 : Nat) (w : World) (hk : (Lit.int .u64 keeps).wf = true) (hops1 : IsOps w a1 len1) (hops2 : IsOps w a2 len2) (hlen1 : len1 ≤ maxLen) (hlen2 : len2 ≤ maxLen) :
    Calls Try.prog 4 #[.int .i64 n, .slice a1 len1 cap1, .slice a2 len2 cap2, .int .u64 keeps] w fun e w' => e = .returned (.bool true) ∧ Below w.heap.size w w' := by
  have hu1 : IntKind.u64.min = 0 := rfl
  have hu2 : IntKind.u64.max = 18446744073709551615 := rfl
  simp only [Lit.wf, Bool.and_eq_true, decide_eq_true_eq] at hk
  have hk0 : 0 ≤ keeps := by omega
  have hk1 : keeps < 18446744073709551616 := by omega
  clear hu1 hu2 hk
  have hlen1' : len1 < 9223372036854775808 := Nat.lt_of_le_of_lt hlen1 (by unfold maxLen; decide)
  have hlen2' : len2 < 9223372036854775808 := Nat.lt_of_le_of_lt hlen2 (by unfold maxLen; decide)
  clear hlen1 hlen2
  have Hops1 := Lib.hid hops1
  have Hops2 := Lib.hid hops2
  clear hops1 hops2
  obtain ⟨m, hm, hmb⟩ := and_mask n 31 (by decide)
  have hm : bits BinOp.and IntKind.i64 n 31 = (m : Int) := hm
  by_cases hbig1 : 60 < len1
  · have t1 : decide ((60 : Int) < (len1 : Int)) = true := by simp; omega
    go_enter Try.func4, Try.ntmps4
    go_wp2_with (go_at_call 7; refine (alive_any _).mono ?_; rintro e w1 ⟨rfl, hb1⟩)
    go_ret
    exact ⟨rfl, hb1⟩
  have t1 : decide ((60 : Int) < (len1 : Int)) = false := by simp; omega
  by_cases hbig2 : 60 < len2
  · have t2 : decide ((60 : Int) < (len2 : Int)) = true := by simp; omega
    go_enter Try.func4, Try.ntmps4
    go_wp2_with (go_at_call 7; refine (alive_any _).mono ?_; rintro e w1 ⟨rfl, hb1⟩)
    go_ret
    exact ⟨rfl, hb1⟩
  have t2 : decide ((60 : Int) < (len2 : Int)) = false := by simp; omega
  go_enter Try.func4, Try.ntmps4
  go_wp2_with (go_at_call 7; refine (alive_any _).mono ?_; rintro e w1 ⟨rfl, hb1⟩)
  refine (new_any w w1 [] m (Own.of_below hb1) (by omega)).mono ?_
  rintro e w2 ⟨d, rfl, hA⟩
  obtain ⟨n0, hn0⟩ : ∃ n0, max 1 m = n0 := ⟨_, rfl⟩
  have hn0b : n0 ≤ 31 := by omega
  rw [hn0] at hA
  have Hst := Lib.hid (show WrK w d n0 len1 (.int .i64 0) w2 from ⟨0, _, rfl, Nat.zero_le _, hA, rfl, rfl, by simp [newM], (by decide : (0 : Int) ≤ 0), Nat.le_refl _, newM_by _, newM_even _⟩)
  clear hA hn0
  go_wp2_with fail
  go_loopw [36] (fun t wr => WrK w d n0 len1 t wr) (fun t _ => 61 - (intOf t).toNat)
  case atStart => exact Hst.out
  case round =>
    obtain ⟨i, D, rfl, hi, hA, hdn, hlf, hl, hst, hsi, hby, hev⟩ := hrel
    by_cases hlt : i < len1
    · obtain ⟨b, off, k, x, y, p, rfl, hr, wx, wy, wp, wk⟩ := (Hops1.out.below hA.below) i hlt
      have hiw := info_op k x y p
      have hz := zero_op
      have Hone := Lib.hid (op_one k x y p)
      have HA := Lib.hid hA
      have HI := Lib.hid (write_nought D hdn hlf x (secB y))
      have HY := Lib.hid (And.intro (writeM_by D hby x (secB y) (secB_by y wy)) (write_even D hev hlf x (secB y)))
      have Hd := Lib.hid (show D.steps < 9223372036854775807 ∧ D.since.length < 1000000 ∧ D.steps ≤ (i : Int) ∧ D.since.length ≤ i ∧ D.last.length = n0 from ⟨by omega, by omega, hst, hsi, hl⟩)
      clear hA hdn hlf hl hst hsi hby hev
      go_wp2_with (first
        | (refine wpList_load_mid rfl 33 (.tmp 38) rfl b (off + i * 4) rfl (opCells k x y p) _ hr Try.underlying33 rfl hiw ?_)
        | (refine wpList_store_dk rfl 33 (.tmp 11) (.tmp 39) rfl HA.out (opCells k x y p) wr.heap.size rfl rfl rfl rfl hiw Hone.out ?_))
      intro w3 hA3
      have c1 : w3.cell? ⟨wr.heap.size, 1, none⟩ = some (.int .i64 x) := hA3.cell (e := 33) (size := 4) (n := 1) (cap := 1) (xs := opCells k x y p) (by simp [opCells]) 1 (by decide)
      have c2 : w3.cell? ⟨wr.heap.size, 2, none⟩ = some (.int .u8 y) := hA3.cell (e := 33) (size := 4) (n := 1) (cap := 1) (xs := opCells k x y p) (by simp [opCells]) 2 (by decide)
      have hb := built_secB y
      have HA3 := Lib.hid hA3
      clear hA3
      go_wp2_with (refine wpList_build rfl 39 _ rfl [(0, .int .u8 y)] rfl _ hb ?_)
      refine (write_any w w3 d D _ x (secB y) HA3.out (secB_sec y) Hd.out.1 Hd.out.2.1).mono ?_
      rintro e w4 ⟨rfl, hA4⟩
      have HA4 := Lib.hid hA4.drop
      clear hA4
      go_wp2_with fail
      go_roundw
      case rel => exact ⟨i + 1, _, by go_num, by omega, HA4.out, HI.out.1, HI.out.2.1, by rw [HI.out.2.2.1]; exact Hd.out.2.2.2.2, by have := HI.out.2.2.2.1; have := Hd.out.2.2.1; omega, by have := HI.out.2.2.2.2; have := Hd.out.2.2.2.1; omega, HY.out.1, HY.out.2⟩
      case measure => simp [intOf]; omega
    · obtain rfl : i = len1 := by omega
      have HF := Lib.hid (flush_up D hdn hlf)
      have HO0 := hA.ok
      have HC := Lib.hid (show ∀ D1, settleM { D with steps := D.steps + 1 } 18446744073709551615 = D1 → D1.down = false ∧ D1.left = 0 ∧ D1.since = [] ∧ D1.last.length = n0 ∧ D1.steps ≤ 61 ∧ D1.By ∧ ∀ k, k < n0 → D1.kept[k]? = D1.last[k]? from by
        rintro D1 rfl
        have o1 : ({ D with steps := D.steps + 1 } : Dk).Ok := { HO0 with steps0 := by have := HO0.steps0; show 0 ≤ D.steps + 1; omega }
        exact ⟨hdn, hlf, rfl, (lastTo_length _ _ _).trans hl, by show D.steps + 1 ≤ 61; omega, settleM_by { D with steps := D.steps + 1 } ⟨hby.kept, hby.last, hby.since⟩ _, fun k hk => settle_even _ o1 hev _ k (by show k < D.last.length; omega)⟩)
      have HA := Lib.hid hA
      have hst2 : D.steps < 9223372036854775807 := by omega
      clear hA hdn hlf hl hst hsi hby hev HO0 Hst
      go_wp2_with fail
      refine (flush_any w wr d D [] HA.out hst2).mono ?_
      rintro e w3 ⟨rfl, hA3⟩
      rw [HF.out] at hA3
      rw [HF.out]
      generalize settleM { D with steps := D.steps + 1 } 18446744073709551615 = D1 at *
      have hA4 := hA3.newMap (w0 := w) (ms := []) (.map #[] 0)
      have HA4 := Lib.hid hA4
      have Hst := Lib.hid (show MkK w d n0 w3.heap.size D1 (.int .i64 0) (w3.alloc (.map #[] 0)) from ⟨0, _, [], [], rfl, Nat.zero_le _, hA4, by simp, May.start w3, rfl, fun k s hk => absurd hk (Nat.not_lt_zero _)⟩)
      obtain ⟨hd1, hl1, hs1, hn1, hst1, hby1, hev1⟩ := HC.out D1 rfl
      have HD1 := Lib.hid (show D1.down = false ∧ D1.left = 0 ∧ D1.since = [] ∧ D1.last.length = n0 ∧ D1.steps ≤ 61 ∧ D1.By ∧ ∀ k, k < n0 → D1.kept[k]? = D1.last[k]? from ⟨hd1, hl1, hs1, hn1, hst1, hby1, hev1⟩)
      have hmk := run_mk
      clear hA3 HA hA4 HC hd1 hl1 hs1 hn1 hst1 hby1 hev1
      go_wp2_with fail
      refine (len_any _ _ d D1 _ HA4.out).mono ?_
      rintro e w' ⟨rfl, rfl⟩
      rw [HD1.out.2.2.2.1]
      clear HA4
      generalize w3.alloc (.map #[] 0) = w4 at *
      generalize w3.heap.size = b0 at *
      go_wp2_with fail
      go_loopw [54] (fun t wr => MkK w d n0 b0 D1 t wr) (fun t _ => 61 - (intOf t).toNat)
      case atStart => exact Hst.out
      case round =>
        obtain ⟨x, ms, bs, DS, rfl, hx, hA, hblk, hM, hbl, hmb⟩ := hrel
        by_cases hlt : x < n0
        · have hx1 : x < D1.last.length := by rw [HD1.out.2.2.2.1]; exact hlt
          have hsec : isSec D1.last[x] := hA.ok.last _ (List.getElem_mem _)
          have hbyS : byteSec D1.last[x] := HD1.out.2.2.2.2.2.1.last _ (List.getElem_mem _)
          have hget : D1.last[x]? = some D1.last[x] := List.getElem?_eq_getElem hx1
          have hrd := read_up D1 HD1.out.1 x hx1
          generalize D1.last[x] = s at *
          have HA := Lib.hid hA
          have Hblk := Lib.hid hblk
          have HM := Lib.hid hM
          have Hbl := Lib.hid hbl
          have Hmb := Lib.hid hmb
          have Hrd := Lib.hid hrd
          have Hsec := Lib.hid hsec
          have HbyS := Lib.hid hbyS
          have Hget := Lib.hid hget
          have hzs := zero_sector
          have his : (Try.prog.info? 39).map (·.size) = some s.length := by rw [hsec.1]; exact info_sector
          clear hA hblk hM hbl hmb hrd hsec hbyS hget hx1
          go_wp2_with fail
          refine (read_any _ wr d D1 _ (x : Int) HA.out).mono ?_
          rintro e w5 ⟨rfl, hb5⟩
          rw [Hrd.out.1, Hrd.out.2]
          have hA5 := HA.out.later hb5
          have HM5 := Lib.hid (HM.out.same fun b hb => hA5.own.same (L := []) (h' := hA5.own) (Hblk.out b hb) |>.trans (HA.out.own.same hA5.own (Hblk.out b hb)))
          have HA5 := Lib.hid hA5
          have Hs1 := Lib.hid Hsec.out.2
          have Hzl := Lib.hid (show zSec.toArray.size = s.length by rw [Hsec.out.1]; rfl)
          clear hA5 hb5 HM HA
          go_wp2_with (refine wpList_store_dk rfl 39 (.tmp 14) (.tmp 61) rfl HA5.out s w5.heap.size rfl rfl rfl Hzl.out his Hs1.out ?_)
          intro w6 hA6
          have hr6 : w6.rangeAt w5.heap.size 0 s := by
            have h6 := hA6.own
            have := Own.range (h := h6) 0 64
            rw [List.drop_zero, List.take_of_length_le (by rw [Hsec.out.1]; exact Nat.le_refl _)] at this
            exact this
          have HM6 := Lib.hid (HM5.out.same fun b hb => HA5.out.own.same hA6.own (Hblk.out b hb))
          have HA6 := Lib.hid hA6.drop
          clear hA6 HA5 HM5
          generalize w5.heap.size = g at *
          have hA7 := HA6.out.newMap (.map #[] 0)
          have HA7 := Lib.hid hA7
          obtain ⟨⟨DO, hDO1, hDO2⟩, _, _, _⟩ := id HM6.out
          have HDO := Lib.hid (hDO1.alloc (.map #[] 0))
          have HMk := Lib.hid (World.ownsMap_made (H := Unit) w6 Try.prog 39 (plainElem Try.prog 3))
          have HDO1 := Lib.hid hDO1
          have HDO2 := Lib.hid hDO2
          have Hlt := Lib.hid (show ∀ b ∈ b0 :: bs, b < w6.heap.size from fun b hb => by
            obtain ⟨q, hq, e⟩ := List.mem_map.1 (Hblk.out b hb)
            rw [← e]; exact lt_of_heap (HA6.out.own.maps q hq).2)
          have hr7 : (w6.alloc (.map #[] 0)).rangeAt g 0 s := fun j v hj => (((Below.refl w6.heap.size w6).alloc (Nat.le_refl _) (.map #[] 0)).cell (World.block_lt_of_cell? w6 _ (hr6 j v hj))).trans (hr6 j v hj)
          have hmk := run_mk
          clear hA7 hDO1 hDO2 hr6
          go_wp2_with (first
            | (refine wpList_load_mid rfl 39 (.tmp 14) rfl g 0 rfl s _ hr7 Try.underlying39 rfl his ?_)
            | (refine wpList_insert_own _ rfl _ _ _ 52 rfl 39 3 lawS Try.underlying52 _ w6.heap.size 0 _ rfl HMk.out (by decide) _ _ (secKey s) rfl rfl (keyOf_sec s HbyS.out Hsec.out.1) (.lit (.int .i64 1)) [] (plainElem_int Try.underlying3 (by decide)) ?_))
          intro w7 ho7 hg7
          have hne7 : ∀ b ∈ b0 :: bs, some b ≠ some w6.heap.size := fun b hb e => absurd (Hlt.out b hb) (by rw [Option.some.inj e]; exact Nat.lt_irrefl _)
          have hO7 := HDO.out.kept hg7 (hne7 b0 (List.mem_cons_self ..))
          have HO7 := Lib.hid hO7
          have Ho7 := Lib.hid ho7
          have Hg7 := Lib.hid hg7
          have Hne7 := Lib.hid hne7
          have hx63 : x < maxLen := by unfold maxLen; omega
          clear hO7 ho7 hg7 hne7 HMk hr7
          go_wp2_with (refine wpList_mapUpdate_own _ rfl _ _ _ 51 rfl 3 52 lawI Try.underlying51 rdMap b0 x DO rfl HO7.out hx63 _ _ (.int .i64 (x : Int)) rfl rfl (keyI x (by omega)) (.lit (.int .i64 (w6.heap.size : Int))) [] rfl ?_)
          intro w8 ho8 hg8
          obtain ⟨ms1, hA8a, e1⟩ := HA7.out.remap (b := w6.heap.size) (by simp) Hg7.out (ownsMap_obj Ho7.out)
          obtain ⟨ms2, hA8, e2⟩ := hA8a.remap (b := b0) (by rw [e1]; exact List.mem_cons_of_mem _ (Hblk.out b0 (List.mem_cons_self ..))) hg8 (ownsMap_obj ho8)
          have hbn : w6.heap.size ∉ b0 :: bs := fun hm => Hne7.out _ hm rfl
          have hblk8 : ∀ b ∈ b0 :: (bs ++ [w6.heap.size]), b ∈ ms2.map (·.1) := by
            intro b hb
            rw [e2, e1]
            rw [← List.cons_append] at hb
            rcases List.mem_append.1 hb with h1 | h1
            · exact List.mem_cons_of_mem _ (Hblk.out b h1)
            · rw [List.mem_singleton.1 h1]; exact List.mem_cons_self ..
          have hnd := List.nodup_cons.1 HM6.out.apart
          have hM8 := HM6.out.add' (D := DO) hbn (Ho7.out.kept hg8 (Hne7.out b0 (List.mem_cons_self ..)).symm) (fun b hb => by
            have l6 := Hlt.out b (List.mem_cons_of_mem _ hb)
            have l7 : b < (w6.alloc (.map #[] 0)).heap.size := Nat.lt_of_lt_of_le l6 ((Below.refl w6.heap.size w6).alloc (Nat.le_refl _) (.map #[] 0)).size
            have l8 : b < w7.heap.size := Nat.lt_of_lt_of_le l7 Hg7.out.size
            rw [hg8.block b l8 (fun e => hnd.1 (by rw [← Option.some.inj e]; exact hb)), Hg7.out.block b l7 (Hne7.out b (List.mem_cons_of_mem _ hb)), Below.heap_alloc _ _ _ l6]) HDO1.out (by rw [Hbl.out]; exact ho8)
          have Hfin := Lib.hid (show MkK w d n0 b0 D1 (.int .i64 ((x + 1 : Nat) : Int)) w8 from ⟨x + 1, ms2, _, _, rfl, by omega, hA8, hblk8, hM8, by rw [List.length_append, Hbl.out]; rfl, fun k t hk ht => by
            have hDl : DS.length = x := HM6.out.len.trans Hbl.out
            by_cases hkx : k < x
            · obtain ⟨q1, q2, D', q3, q4⟩ := Hmb.out k t hkx ht
              exact ⟨q1, q2, D', by rw [List.getElem?_append_left (by omega)]; exact q3, q4⟩
            · obtain rfl : k = x := by omega
              rw [Hget.out] at ht
              cases ht
              exact ⟨HbyS.out, Hsec.out.1, _, by rw [List.getElem?_append_right (by omega), hDl, Nat.sub_self]; rfl, atKey_put_same ⟨[], rfl⟩ (show Go.WideAt.IsKeyLit (secKey s) from trivial) _ _⟩⟩)
          clear ho8 hg8 hA8a hA8 hM8 hblk8 hnd hbn e1 e2
          go_wp2_with fail
          go_roundw
          case rel => exact (by go_num : (Value.int .i64 ((x + 1 : Nat) : Int)) = _) ▸ Hfin.out
          case measure => simp [intOf]; omega
        · obtain rfl : x = n0 := by omega
          have hkl : D1.kept.length = D1.last.length := hA.ok.len
          have hIn : D1.In (mayBe DS) := by
            have hlast : ∀ k t, D1.last[k]? = some t → mayBe DS k t := fun k t ht => by
              refine hmb k t ?_ ht
              rcases Nat.lt_or_ge k D1.last.length with h1 | h1
              · rw [← HD1.out.2.2.2.1]; exact h1
              · rw [List.getElem?_eq_none h1] at ht; cases ht
            refine ⟨fun k t ht => ?_, hlast, fun p hp => by rw [HD1.out.2.2.1] at hp; cases hp⟩
            have hkx : k < D1.kept.length := by
              rcases Nat.lt_or_ge k D1.kept.length with h1 | h1
              · exact h1
              · rw [List.getElem?_eq_none h1] at ht; cases ht
            rw [HD1.out.2.2.2.2.2.2 k (by rw [← HD1.out.2.2.2.1, ← hkl]; exact hkx)] at ht
            exact hlast k t ht
          have Hst := Lib.hid (show BhK w d x b0 len2 61 bs (.int .i64 0) wr from ⟨0, D1, ms, DS, rfl, Nat.zero_le _, hA, hblk, hM, HD1.out.1, HD1.out.2.1, HD1.out.2.2.2.1, by have := HD1.out.2.2.2.2.1; omega, by rw [HD1.out.2.2.1]; exact Nat.le_refl _, hIn⟩)
          have Hbl := Lib.hid hbl
          clear hA hblk hM hbl hmb hkl hIn HD1
          go_wp2_with fail
          go_loopw [71] (fun t wr => BhK w d x b0 len2 61 bs t wr) (fun t _ => 61 - (intOf t).toNat)
          case atStart => exact Hst.out
          case round =>
            obtain ⟨q, D2, ms, DS, rfl, hq, hA, hblk, hM, hdn, hlf, hl, hst, hsi, hIn⟩ := hrel
            by_cases hlt : q < len2
            · obtain ⟨b, off, k, x2, y, p, rfl, hr, wx, wy, wp, wk⟩ := (Hops2.out.below hA.below) q hlt
              have hiw := info_op k x2 y p
              have hz := zero_op
              have Hone := Lib.hid (op_one k x2 y p)
              have HA := Lib.hid hA
              have Hblk := Lib.hid hblk
              have HM := Lib.hid hM
              have HIn := Lib.hid hIn
              have Hd := Lib.hid (show D2.steps < 9223372036854775807 ∧ D2.since.length < 1000000 ∧ D2.steps ≤ 61 + (q : Int) ∧ D2.since.length ≤ q ∧ D2.last.length = x ∧ D2.down = false ∧ D2.left = 0 from ⟨by omega, by omega, hst, hsi, hl, hdn, hlf⟩)
              have hb := built_secB2 y
              have Hby := Lib.hid (secB2_by y wy)
              rcases write_up D2 hdn hlf x2 (secB2 y) with ⟨hw2, kk, rfl, hkk, hwe⟩ | ⟨hw2, hwe⟩
              · have HWe := Lib.hid hwe
                have hkx : kk < x := by omega
                clear hA hblk hM hIn hdn hlf hl hst hsi hw2 hwe
                go_wp2_with (first
                  | (refine wpList_load_mid rfl 33 (.tmp 73) rfl b (off + q * 4) rfl (opCells k kk y p) _ hr Try.underlying33 rfl hiw ?_)
                  | (refine wpList_store_dk rfl 33 (.tmp 17) (.tmp 74) rfl HA.out (opCells k kk y p) wr.heap.size rfl rfl rfl rfl hiw Hone.out ?_))
                intro w3 hA3
                have c1 : w3.cell? ⟨wr.heap.size, 1, none⟩ = some (.int .i64 (kk : Int)) := hA3.cell (e := 33) (size := 4) (n := 1) (cap := 1) (xs := opCells k kk y p) (by simp [opCells]) 1 (by decide)
                have c2 : w3.cell? ⟨wr.heap.size, 2, none⟩ = some (.int .u8 y) := hA3.cell (e := 33) (size := 4) (n := 1) (cap := 1) (xs := opCells k kk y p) (by simp [opCells]) 2 (by decide)
                have HA3 := Lib.hid hA3
                clear hA3
                go_wp2_with (refine wpList_build rfl 39 _ rfl [(0, .int .u8 y), (1, .int .u8 1)] rfl _ hb ?_)
                refine (write_any _ w3 d D2 _ (kk : Int) (secB2 y) HA3.out (secB2_sec y) Hd.out.1 Hd.out.2.1).mono ?_
                rintro e w4 ⟨rfl, hA4⟩
                rw [HWe.out] at hA4 ⊢
                have c3 : w4.cell? ⟨wr.heap.size, 1, none⟩ = some (.int .i64 (kk : Int)) := hA4.cell (e := 33) (size := 4) (n := 1) (cap := 1) (xs := opCells k kk y p) (by simp [opCells]) 1 (by decide)
                have c4 : w4.cell? ⟨wr.heap.size, 2, none⟩ = some (.int .u8 y) := hA4.cell (e := 33) (size := 4) (n := 1) (cap := 1) (xs := opCells k kk y p) (by simp [opCells]) 2 (by decide)
                have HM4 := Lib.hid (HM.out.same fun b hb => HA.out.own.same hA4.own (Hblk.out b hb))
                have hkb : kk < bs.length := by rw [Hbl.out]; exact hkx
                have hkD : kk < DS.length := by rw [HM.out.len]; exact hkb
                have hlook := HM4.out.look kk hkb (by omega)
                have HA4 := Lib.hid hA4.drop
                have hin4 := HM4.out.inner kk hkb hkD
                have Hin4 := Lib.hid hin4
                clear hA4 HA3 c1 c2 hin4
                generalize wr.heap.size = g at *
                have hcm : 1 + q < maxLen := by unfold maxLen; omega
                go_wp2_with (first
                  | (refine wpList_build rfl 39 _ rfl [(0, .int .u8 y), (1, .int .u8 1)] rfl _ hb ?_)
                  | (refine wpList_mapUpdate_own _ rfl _ _ _ 52 rfl 39 3 lawS Try.underlying52 _ bs[kk] (1 + q) DS[kk] rfl Hin4.out hcm _ _ (secKey (secB2 y)) rfl rfl (keyOf_sec (secB2 y) Hby.out rfl) (.lit (.int .i64 1)) [] (plainElem_int Try.underlying3 (by decide)) ?_))
                intro w5 ho5 hg5
                obtain ⟨ms1, hA5, e1⟩ := HA4.out.remap (b := bs[kk]) (Hblk.out _ (List.mem_cons_of_mem _ (List.getElem_mem hkb))) hg5 (ownsMap_obj ho5)
                have hM5 := HM4.out.put kk hkb hkD (secB2 y) ho5 hg5
                have hmp := mayBe.put HM4.out kk hkb hkD (secB2 y) Hby.out rfl
                have hI5 := put_in D2 _ (HIn.out.mono hmp.2) kk (secB2 y) hmp.1
                have Hfin := Lib.hid (show BhK w d x b0 len2 61 bs (.int .i64 ((q + 1 : Nat) : Int)) w5 from ⟨q + 1, _, ms1, _, rfl, by omega, hA5, by rw [e1]; exact Hblk.out, hM5, Hd.out.2.2.2.2.2.1, Hd.out.2.2.2.2.2.2, by show (D2.last.set _ _).length = x; rw [List.length_set]; exact Hd.out.2.2.2.2.1, by show D2.steps + 1 ≤ _; have := Hd.out.2.2.1; omega, by show (D2.since ++ [_]).length ≤ _; have := Hd.out.2.2.2.1; simp; omega, ⟨hI5.kept, hI5.last, hI5.since⟩⟩)
                clear ho5 hg5 hA5 hM5 hmp hI5 e1 hlook c3 c4
                go_wp2_with fail
                go_roundw
                case rel => exact (by go_num : (Value.int .i64 ((q + 1 : Nat) : Int)) = _) ▸ Hfin.out
                case measure => simp [intOf]; omega
              · have HWe := Lib.hid hwe
                have HW2 := Lib.hid hw2
                clear hA hblk hM hIn hdn hlf hl hst hsi hw2 hwe
                go_wp2_with (first
                  | (refine wpList_load_mid rfl 33 (.tmp 73) rfl b (off + q * 4) rfl (opCells k x2 y p) _ hr Try.underlying33 rfl hiw ?_)
                  | (refine wpList_store_dk rfl 33 (.tmp 17) (.tmp 74) rfl HA.out (opCells k x2 y p) wr.heap.size rfl rfl rfl rfl hiw Hone.out ?_))
                intro w3 hA3
                have c1 : w3.cell? ⟨wr.heap.size, 1, none⟩ = some (.int .i64 x2) := hA3.cell (e := 33) (size := 4) (n := 1) (cap := 1) (xs := opCells k x2 y p) (by simp [opCells]) 1 (by decide)
                have c2 : w3.cell? ⟨wr.heap.size, 2, none⟩ = some (.int .u8 y) := hA3.cell (e := 33) (size := 4) (n := 1) (cap := 1) (xs := opCells k x2 y p) (by simp [opCells]) 2 (by decide)
                have HA3 := Lib.hid hA3
                clear hA3
                go_wp2_with (refine wpList_build rfl 39 _ rfl [(0, .int .u8 y), (1, .int .u8 1)] rfl _ hb ?_)
                refine (write_any _ w3 d D2 _ x2 (secB2 y) HA3.out (secB2_sec y) Hd.out.1 Hd.out.2.1).mono ?_
                rintro e w4 ⟨rfl, hA4⟩
                rw [HWe.out] at hA4
                rw [HW2.out]
                have hA5 := hA4.drop
                have hM5 := HM.out.same fun b hb => HA.out.own.same hA5.own (Hblk.out b hb)
                have Hfin := Lib.hid (show BhK w d x b0 len2 61 bs (.int .i64 ((q + 1 : Nat) : Int)) w4 from ⟨q + 1, D2, ms, DS, rfl, by omega, hA5, Hblk.out, ⟨hM5.outer, hM5.len, fun z hz1 hz2 => (hM5.inner z hz1 hz2).mono (Nat.le_succ _), hM5.apart⟩, Hd.out.2.2.2.2.2.1, Hd.out.2.2.2.2.2.2, Hd.out.2.2.2.2.1, by have := Hd.out.2.2.1; omega, by have := Hd.out.2.2.2.1; omega, HIn.out⟩)
                clear hA4 hA5 hM5 HA3 c1 c2
                go_wp2_with fail
                go_roundw
                case rel => exact (by go_num : (Value.int .i64 ((q + 1 : Nat) : Int)) = _) ▸ Hfin.out
                case measure => simp [intOf]; omega
            · obtain rfl : q = len2 := by omega
              have HA := Lib.hid hA
              have HC := Lib.hid (show ∀ D3, onM (crashM D2 keeps) = D3 → D3.down = false ∧ D3.last.length = x ∧ ∀ k t, D3.last[k]? = some t → mayBe DS k t from by
                rintro D3 rfl
                exact ⟨rfl, (lastTo_length _ _ _).trans hl, fun k t ht => crash_in D2 hA.ok (mayBe DS) hIn keeps k t ht⟩)
              have HM := Lib.hid hM
              have Hblk := Lib.hid hblk
              clear hA hblk hM hIn hdn hlf hl hst hsi Hst
              go_wp2_with fail
              refine (crash_any _ wr d D2 [] keeps HA.out hk0 hk1).mono ?_
              rintro e w3 ⟨rfl, hA3⟩
              have HA3 := Lib.hid hA3
              clear hA3
              go_wp2_with fail
              refine (on_any _ w3 d _ _ HA3.out).mono ?_
              rintro e w4 ⟨rfl, hA4⟩
              have HM4 := Lib.hid (HM.out.same fun b hb => HA.out.own.same hA4.own (Hblk.out b hb))
              obtain ⟨hd3, hn3, hm3⟩ := HC.out _ rfl
              generalize onM (crashM D2 keeps) = D3 at *
              have HD3 := Lib.hid (show D3.down = false ∧ D3.last.length = x ∧ ∀ k t, D3.last[k]? = some t → mayBe DS k t from ⟨hd3, hn3, hm3⟩)
              have HA4 := Lib.hid hA4
              have Hst := Lib.hid (show EdK w d x b0 (1 + q) ms D3 bs DS (.int .i64 0) w4 from ⟨0, rfl, Nat.zero_le _, hA4, HM4.out⟩)
              clear hd3 hn3 hm3 hA4 HA3 HA HM HC HM4
              go_wp2_with fail
              refine (len_any _ w4 d D3 _ HA4.out).mono ?_
              rintro e w' ⟨rfl, rfl⟩
              rw [HD3.out.2.1]
              clear HA4
              go_wp2_with fail
              go_loopw [98] (fun t wr => EdK w d x b0 (1 + q) ms D3 bs DS t wr) (fun t _ => 61 - (intOf t).toNat)
              case atStart => exact Hst.out
              case round =>
                obtain ⟨z, rfl, hz, hA, hM⟩ := hrel
                by_cases hlt : z < x
                · have hz3 : z < D3.last.length := by rw [HD3.out.2.1]; exact hlt
                  have hsec : isSec D3.last[z] := hA.ok.last _ (List.getElem_mem _)
                  have hget : D3.last[z]? = some D3.last[z] := List.getElem?_eq_getElem hz3
                  have hmay := HD3.out.2.2 z _ hget
                  have hrd := read_up D3 HD3.out.1 z hz3
                  generalize D3.last[z] = s at *
                  have hzb : z < bs.length := by rw [Hbl.out]; exact hlt
                  have HA := Lib.hid hA
                  have HM := Lib.hid hM
                  have Hrd := Lib.hid hrd
                  have Hsec := Lib.hid hsec
                  have Hmay := Lib.hid hmay
                  have hzs := zero_sector
                  have his : (Try.prog.info? 39).map (·.size) = some s.length := by rw [hsec.1]; exact info_sector
                  have hz0' : (0 : Int) ≤ (z : Int) := by omega
                  have hz1' : (z : Int) < (x : Int) := by omega
                  clear hA hM hrd hsec hget hmay hz3
                  go_wp2_with fail
                  refine (read_any _ wr d D3 _ (z : Int) HA.out).mono ?_
                  rintro e w5 ⟨rfl, hb5⟩
                  rw [Hrd.out.1, Hrd.out.2]
                  have hA5 := HA.out.later hb5
                  have HM5 := Lib.hid (HM.out.same fun b hb => HA.out.own.same hA5.own (Hblk.out b hb))
                  have HA5 := Lib.hid hA5
                  have Hs1 := Lib.hid Hsec.out.2
                  have Hzl := Lib.hid (show zSec.toArray.size = s.length by rw [Hsec.out.1]; rfl)
                  clear hA5 hb5 HM HA
                  go_wp2_with (refine wpList_store_dk rfl 39 (.tmp 19) (.tmp 105) rfl HA5.out s w5.heap.size rfl rfl rfl Hzl.out his Hs1.out ?_)
                  intro w6 hA6
                  have cb : w6.rangeAt w5.heap.size 0 s := by
                    have := Own.range (h := hA6.own) 0 64
                    rw [List.drop_zero, List.take_of_length_le (by rw [Hsec.out.1]; exact Nat.le_refl _)] at this
                    exact this
                  have hM6 := HM5.out.same fun b hb => HA5.out.own.same hA6.own (Hblk.out b hb)
                  have HM6 := Lib.hid hM6
                  have l1 := hM6.look z hzb (by omega)
                  have l2 := hM6.found z hzb s Hmay.out
                  have l3 := (hM6.same (w' := w6.drew) fun b hb => rfl).look z hzb (by omega)
                  have l4 := (hM6.same (w' := w6.drew) fun b hb => rfl).found z hzb s Hmay.out
                  have q1 := (sec_is (w := w6.drew) cb Hsec.out.1).1
                  have q2 := (sec_is (w := w6.drew) cb Hsec.out.1).2
                  have q3 := (sec_is (w := w6) cb Hsec.out.1).1
                  have q4 := (sec_is (w := w6) cb Hsec.out.1).2
                  have HA6 := Lib.hid hA6.drop
                  clear hA6 HA5 HM5 hM6
                  generalize w5.heap.size = g at *
                  go_wp2_with fail
                  exact ⟨⟨z + 1, by go_num, by omega, HA6.out, HM6.out⟩, by simp [intOf]; omega⟩
                · obtain rfl : z = x := by omega
                  have hbw := hA.below
                  clear hA hM Hst
                  go_wp2_with fail
                  go_ret
                  exact ⟨rfl, hbw⟩
end Go.Proofs.Ythmcdmnjjofehaa
