/- A disk as it lies in memory, and what 'settle' makes of it. -/
import Derived.Test.YtpebpchnkhbcfaaProg
import Derived.Test.YtpebpchnkhbcfaaKDisk0
import Derived.WalkLawsBesides
import Derived.Outline
import Derived.Lib.Hide
import Derived.Deep.RegionHeld3
import Derived.StillTailTactics
import Derived.Laws.BitsAllLaws
namespace Go.Proofs.Ytpebpchnkhbcfaa
open Go.RowKit
set_option linter.unusedVariables false
set_option linter.unusedSimpArgs false

/-- The disk's own cells. -/
def dcells (kb lb : Nat) (sv : Value) (n : Nat) (D : Dk) : List Value :=
  [.slice (some ⟨kb, 0, none⟩) n n, .slice (some ⟨lb, 0, none⟩) n n, sv, .int .i64 D.steps, .int .i64 D.left, .int .u64 D.keeps, .bool D.down]
def rowD (d kb lb : Nat) (sv : Value) (n : Nat) (D : Dk) : Rw := ⟨53, 7, .slice (some ⟨d, 0, none⟩) 1 1, 1, dcells kb lb sv n D⟩
def rowK (kb n : Nat) (K : List (List Value)) : Rw := ⟨55, 64, .slice (some ⟨kb, 0, none⟩) n n, n, K.flatten⟩
def rowS (sv : Value) (S : List (Nat × List Value)) : Rw := ⟨87, 65, sv, S.length, (S.map wcells).flatten⟩
abbrev rowsOf (d kb lb : Nat) (sv : Value) (n : Nat) (D : Dk) (L : List Rw) : List Rw :=
  rowD d kb lb sv n D :: rowK kb n D.kept :: rowK lb n D.last :: rowS sv D.since :: L

def zSec : List Value := List.replicate 64 (.int .u8 0)
def zW : List Value := .int .i64 0 :: zSec
theorem zero_write (w : World) : Sem.run Try.prog (zeroValue 87) w = .ok (.agg zW.toArray) w := by kernel_rfl
theorem zero_sector (w : World) : Sem.run Try.prog (zeroValue 55) w = .ok (.agg zSec.toArray) w := by kernel_rfl
theorem info_write : (Try.prog.info? 87).map (·.size) = some 65 := by kernel_rfl
theorem info_sector : (Try.prog.info? 55).map (·.size) = some 64 := by kernel_rfl

theorem wcells_length {D : Dk} (hs : ∀ p ∈ D.since, p.1 < D.last.length ∧ isSec p.2) : ∀ s ∈ D.since.map wcells, s.length = 65 := by
  intro s h
  obtain ⟨p, hp, rfl⟩ := List.mem_map.1 h
  simp [wcells, (hs p hp).2.1]
theorem since_range {W0 : Base} {w : World} {sb cp : Nat} {D : Dk} {L : List Rw} (h : Own W0 w (rowS (.slice (some ⟨sb, 0, none⟩) D.since.length cp) D.since :: L)) (hs : ∀ p ∈ D.since, p.1 < D.last.length ∧ isSec p.2) (i : Nat) (hi : i < D.since.length) :
    w.rangeAt sb (i * 65) (wcells D.since[i]) := by
  have h1 := h.range (i * 65) 65
  rw [flat_take 65 _ (wcells_length hs) i (by simpa using hi)] at h1
  simpa using h1

theorem bit_of (keeps : Int) (i : Nat) (h0 : 0 ≤ keeps) (h1 : keeps < 18446744073709551616) : (bits BinOp.and IntKind.u64 (keeps / 2 ^ (i % 64)) 1 == 1) = bitOf keeps i := by
  obtain ⟨n, rfl⟩ := Int.eq_ofNat_of_zero_le h0
  have e : ((n : Int) / 2 ^ (i % 64)) = ((n / 2 ^ (i % 64) : Nat) : Int) := by simp
  have hlt : n / 2 ^ (i % 64) < 18446744073709551616 := Nat.lt_of_le_of_lt (Nat.div_le_self _ _) (by omega)
  rw [e, show (1 : Int) = ((1 : Nat) : Int) from rfl, u64_and_nat _ _ hlt (by decide), nat_mask1]
  unfold bitOf
  rw [Int.toNat_natCast, Nat.testBit_eq_decide_div_mod_eq]
  generalize n / 2 ^ (i % 64) % 2 = q
  rw [Bool.eq_iff_iff]
  simp
  omega
/-- A sector is kept. -/
theorem keep_set {W0 : Base} {w : World} {d kb lb n : Nat} {sv : Value} {D : Dk} {L : List Rw} (h : Own W0 w (rowsOf d kb lb sv n D L)) (x : Nat) (s : List Value) (hx : x < n) (hK : ∀ t ∈ D.kept, t.length = 64) (hs : s.length = 64) (hl : D.kept.length = n) :
    Own W0 (w.drew.setCells kb (x * 64) s) (rowsOf d kb lb sv n { D with kept := D.kept.set x s } L) := by
  have h1 := (Own.setCells (h := (h.drew).swap) s (x * 64)).swap
  rw [flat_splice 64 (by decide) D.kept hK x (by omega) s hs] at h1
  exact h1

theorem last_set {W0 : Base} {w : World} {d kb lb n : Nat} {sv : Value} {D : Dk} {L : List Rw} (h : Own W0 w (rowsOf d kb lb sv n D L)) (x : Nat) (s : List Value) (hx : x < n) (hK : ∀ t ∈ D.last, t.length = 64) (hs : s.length = 64) (hl : D.last.length = n) :
    Own W0 (w.drew.setCells lb (x * 64) s) (rowsOf d kb lb sv n { D with last := D.last.set x s } L) := by
  have h1 := (Own.setCells (h := (h.drew).third) s (x * 64)).unthird
  rw [flat_splice 64 (by decide) D.last hK x (by omega) s hs] at h1
  exact h1
/-- Nothing is written any more that isn't kept. -/
theorem since_nil {W0 : Base} {w : World} {d kb lb n : Nat} {sv : Value} {D : Dk} {L : List Rw} (h : Own W0 w (rowsOf d kb lb sv n D L)) :
    Own W0 (w.setCell ⟨d, 2, none⟩ (.slice none 0 0)) (rowsOf d kb lb (.slice none 0 0) n { D with since := [] } L) := by
  have h1 := (Own.set (h := h) 2 (.slice none 0 0))
  exact ((h1.fourth.tail).nil _ _).unfourth

set_option maxHeartbeats 3200000 in
set_option maxRecDepth 100000 in
theorem settle_any (W0 : Base) (w : World) (d kb lb n : Nat) (sv : Value) (D : Dk) (L : List Rw) (keeps : Int) (hO : Own W0 w (rowsOf d kb lb sv n D L)) (hD : D.Ok) (hn : n = D.last.length) (k0 : 0 ≤ keeps) (k1 : keeps < 18446744073709551616) :
    Calls Try.prog 31 #[.pointer (some ⟨d, 0, none⟩), .int .u64 keeps] w fun e w' => e = .returned (.tuple #[]) ∧ Own W0 w' (rowsOf d kb lb (.slice none 0 0) n (settleM D keeps) L) := by
  have hlen := hD.len
  rw [← hn] at hlen
  have Hlen := Lib.hid hlen
  clear hlen
  by_cases hs : D.since.length = 0
  · obtain ⟨a, cp, rfl⟩ : ∃ a cp, sv = .slice a 0 cp := by
      rcases (show Own W0 w (rowS sv D.since :: rowD d kb lb sv n D :: rowK kb n D.kept :: rowK lb n D.last :: L) from hO.fourth).head.2 with ⟨h2, _⟩ | ⟨g, cp, cur, h2, _⟩
      · exact ⟨_, _, h2⟩
      · exact ⟨some ⟨g, 0, none⟩, cp, by rw [show sv = _ from h2]; show Value.slice _ D.since.length _ = _; rw [hs]⟩
    have c2 : w.cell? ⟨d, 2, none⟩ = some (.slice a 0 cp) := Own.cell (h := hO) 2 (by decide)
    have f2 := Own.free (h := hO) 2
    have hE : settleM D keeps = { D with since := [] } := by unfold settleM; rw [hs]; rfl
    have HF := Lib.hid (since_nil hO)
    rw [← hE] at HF
    clear hE
    go_enter Try.func31, Try.ntmps31
    go_wp2_with fail
    refine wp_loop_rounds 1 ?_
    rw [rounds_succ]
    go_wp2_with fail
    refine wp_loop_rounds 1 ?_
    rw [rounds_succ]
    go_wp2_with fail
    go_end0
    exact ⟨rfl, HF.out⟩
  · obtain ⟨sb, cp, rfl, _, _⟩ := (show Own W0 w (rowS sv D.since :: rowD d kb lb sv n D :: rowK kb n D.kept :: rowK lb n D.last :: L) from hO.fourth).form (by omega)
    have c2 : w.cell? ⟨d, 2, none⟩ = some (.slice (some ⟨sb, 0, none⟩) D.since.length cp) := Own.cell (h := hO) 2 (by decide)
    have hzw := zero_write
    have Hn := Lib.hid hn
    clear hn
    go_enter Try.func31, Try.ntmps31
    go_wp2_with fail
    go_loopw [13] (fun t wr => ∃ i : Nat, i ≤ D.since.length ∧ t = .int .i64 i ∧ Own W0 wr (rowsOf d kb lb (.slice (some ⟨sb, 0, none⟩) D.since.length cp) n { D with kept := keptTo D keeps i } L)) (fun t _ => D.since.length - (intOf t).toNat)
    case atStart => exact ⟨0, by omega, rfl, hO⟩
    case round =>
      obtain ⟨i, hi, rfl, hO⟩ := hrel
      have hm := hD.many
      by_cases hlt : i < D.since.length
      · have hp : D.since[i]? = some D.since[i] := List.getElem?_eq_getElem hlt
        have hr := since_range hO.fourth hD.since i hlt
        have HW := hD.since _ (List.getElem_mem hlt)
        have HK := Lib.hid (show keptTo D keeps (i + 1) = if bitOf keeps i then (keptTo D keeps i).set D.since[i].1 D.since[i].2 else keptTo D keeps i by rw [keptTo, hp])
        generalize D.since[i] = p at *
        obtain ⟨x, s⟩ := p
        clear hp
        obtain ⟨hx, hs64, hs1⟩ := HW
        rw [← Hn.out] at hx
        have hwl : (wcells (x, s)).length = 65 := by simp [wcells, hs64]
        have hw1 : ∀ v ∈ wcells (x, s), v.oneCell' = true := by
          intro v hv
          rcases List.mem_cons.1 hv with rfl | hv
          · rfl
          · exact hs1 v hv
        have hiw : (Try.prog.info? 87).map (·.size) = some (wcells (x, s)).length := by rw [hwl]; exact info_write
        have Hwl := Lib.hid hwl
        have Hw1 := Lib.hid hw1
        have Hs1 := Lib.hid hs1
        have Hs64 := Lib.hid hs64
        clear hwl hw1 hs1 hs64
        go_wp2_with (first
          | (refine wpList_load_mid rfl 87 (.tmp 16) rfl sb (i * 65) rfl (wcells (x, s)) _ hr Try.underlying87 rfl hiw ?_)
          | (refine wpList_store_new rfl 87 (.tmp 5) (.tmp 17) rfl hO (wcells (x, s)) wr.heap.size rfl rfl rfl ?hz hiw Hw1.out ?_))
        case hz => rw [Hwl.out]; rfl
        intro w2 hO2 hH
        have hOt := hO2.tail
        cases hb : bitOf keeps i
        · rw [hb, if_neg (by decide)] at HK
          have hb1 : (bits BinOp.and IntKind.u64 (keeps / 2 ^ (i % 64)) 1 == 1) = false := by rw [bit_of keeps i k0 k1]; exact hb
          clear hb
          go_wp2_with fail
          go_roundw
          case rel => exact ⟨i + 1, by omega, by go_num, by rw [HK.out]; exact hOt⟩
          case measure => simp [intOf]; omega
        · rw [hb, if_pos rfl] at HK
          have hb1 : (bits BinOp.and IntKind.u64 (keeps / 2 ^ (i % 64)) 1 == 1) = true := by rw [bit_of keeps i k0 k1]; exact hb
          have c0 : w2.cell? ⟨d, 0, none⟩ = some (.slice (some ⟨kb, 0, none⟩) n n) := Own.cell (h := hOt) 0 (by decide)
          have cx : w2.cell? ⟨wr.heap.size, 0, none⟩ = some (.int .i64 (x : Int)) := Own.cell (h := hO2) 0 (by rw [Hwl.out]; decide)
          have cs : w2.rangeAt wr.heap.size 1 s := by
            have h1 := hO2.range 1 64
            have h2 : ((wcells (x, s)).drop 1).take 64 = s := by rw [show (wcells (x, s)).drop 1 = s from rfl, ← Hs64.out, List.take_length]
            rw [h2] at h1
            exact h1
          have ck : w2.there kb (x * 64) 64 := Own.there (h := hOt.swap) (x * 64) 64 (by show x * 64 + 64 ≤ n * 64; omega)
          have his : (Try.prog.info? 55).map (·.size) = some s.length := by rw [Hs64.out]; exact info_sector
          have hu39 := Try.underlying55
          have hs64 := Hs64.out
          have hs1 := Hs1.out
          have hN := keep_set hOt x s (by omega) (fun t ht => (keptTo_sec D hD keeps i t ht).1) Hs64.out (by rw [keptTo_length]; exact Hlen.out)
          have HN := Lib.hid hN
          have hx0 : (0 : Int) ≤ (x : Int) := by omega
          have hx1 : (x : Int) < (n : Int) := by omega
          clear hb hN
          go_wp2_with fail
          go_still_tail 9, (by kernel_rfl)
          refine wpStill_load_mid rfl 55 (.tmp 30) rfl wr.heap.size 1 rfl s _ cs Try.underlying55 rfl his ?_
          repeat still_step
          refine wpStill_nil ?_
          change wpList _ _ _ _ _ w2.drew
          refine wpList_store_mid rfl 55 (.tmp 32) (.tmp 31) rfl kb (x * 64) s.toArray rfl rfl ?_ ?_ (all_oneCell_toArray hs1) ?_
          · simpa [hs64] using ck
          · simpa using his
          go_wp2_with fail
          go_roundw
          case rel => exact ⟨i + 1, by omega, by go_num, by rw [HK.out]; exact HN.out⟩
          case measure => simp [intOf]; omega
      · obtain rfl : i = D.since.length := by omega
        have hKs := keptTo_sec D hD keeps D.since.length
        have hKl := keptTo_length D keeps D.since.length
        have HE := Lib.hid (show settleM D keeps = { D with kept := keptTo D keeps D.since.length, last := lastTo (keptTo D keeps D.since.length) D D.since.length, since := [] } from rfl)
        generalize keptTo D keeps D.since.length = K at *
        rw [Hlen.out] at hKl
        have hls := lastTo_sec D hD K hKs (hKl.trans Hn.out)
        clear c2
        have c2 : wr.cell? ⟨d, 2, none⟩ = some (.slice (some ⟨sb, 0, none⟩) D.since.length cp) := Own.cell (h := hO) 2 (by decide)
        have HKs := Lib.hid hKs
        have HKl := Lib.hid hKl
        have Hls := Lib.hid hls
        clear hKs hKl hls
        go_wp2_with fail
        clear c2
        go_loopw [39] (fun t wr => ∃ i : Nat, i ≤ D.since.length ∧ t = .int .i64 i ∧ Own W0 wr (rowsOf d kb lb (.slice (some ⟨sb, 0, none⟩) D.since.length cp) n { D with kept := K, last := lastTo K D i } L)) (fun t _ => D.since.length - (intOf t).toNat)
        case atStart => exact ⟨0, by omega, rfl, hO⟩
        case round =>
          obtain ⟨i, hi, rfl, hO⟩ := hrel
          by_cases hlt : i < D.since.length
          · have hp : D.since[i]? = some D.since[i] := List.getElem?_eq_getElem hlt
            have hr := since_range hO.fourth hD.since i hlt
            have HW := hD.since _ (List.getElem_mem hlt)
            have HK := Lib.hid (show lastTo K D (i + 1) = (lastTo K D i).set D.since[i].1 (K.getD D.since[i].1 []) by rw [lastTo, hp])
            generalize D.since[i] = p at *
            obtain ⟨x, s⟩ := p
            clear hp
            obtain ⟨hx, hs64, hs1⟩ := HW
            rw [← Hn.out] at hx
            have hwl : (wcells (x, s)).length = 65 := by simp [wcells, hs64]
            have hw1 : ∀ v ∈ wcells (x, s), v.oneCell' = true := by
              intro v hv
              rcases List.mem_cons.1 hv with rfl | hv
              · rfl
              · exact hs1 v hv
            have hiw : (Try.prog.info? 87).map (·.size) = some (wcells (x, s)).length := by rw [hwl]; exact info_write
            have Hwl := Lib.hid hwl
            have Hw1 := Lib.hid hw1
            have hgd : K.getD x [] = K[x]'(by have := HKl.out; omega) := by rw [List.getD_eq_getElem?_getD, List.getElem?_eq_getElem (by have := HKl.out; omega)]; rfl
            have hks : isSec (K.getD x []) := by rw [hgd]; exact HKs.out _ (List.getElem_mem _)
            have Hgd := Lib.hid hgd
            have Hks := Lib.hid hks
            clear hwl hw1 hs1 hs64 hgd hks
            go_wp2_with (first
              | (refine wpList_load_mid rfl 87 (.tmp 41) rfl sb (i * 65) rfl (wcells (x, s)) _ hr Try.underlying87 rfl hiw ?_)
              | (refine wpList_store_new rfl 87 (.tmp 7) (.tmp 42) rfl hO (wcells (x, s)) wr.heap.size rfl rfl rfl ?hz2 hiw Hw1.out ?_))
            case hz2 => rw [Hwl.out]; rfl
            intro w2 hO2 hH
            have hOt := hO2.tail
            have c0 : w2.cell? ⟨d, 0, none⟩ = some (.slice (some ⟨kb, 0, none⟩) n n) := Own.cell (h := hOt) 0 (by decide)
            have c1 : w2.cell? ⟨d, 1, none⟩ = some (.slice (some ⟨lb, 0, none⟩) n n) := Own.cell (h := hOt) 1 (by decide)
            have cx : w2.cell? ⟨wr.heap.size, 0, none⟩ = some (.int .i64 (x : Int)) := Own.cell (h := hO2) 0 (by rw [Hwl.out]; decide)
            have cs : w2.rangeAt kb (x * 64) (K.getD x []) := by
              have h1 := Own.range (h := hOt.swap) (x * 64) 64
              rw [flat_take 64 K (fun t ht => (HKs.out t ht).1) x (by have := HKl.out; omega), ← Hgd.out] at h1
              exact h1
            have ck : w2.there lb (x * 64) 64 := Own.there (h := hOt.third) (x * 64) 64 (by show x * 64 + 64 ≤ n * 64; omega)
            have hN := last_set hOt x (K.getD x []) (by omega) (fun t ht => (Hls.out i t ht).1) Hks.out.1 (by rw [lastTo_length]; exact Hn.out.symm)
            have HN := Lib.hid hN
            have his : (Try.prog.info? 55).map (·.size) = some (K.getD x []).length := by rw [Hks.out.1]; exact info_sector
            generalize K.getD x [] = s2 at *
            have hs64 := Hks.out.1
            have hs1 := Hks.out.2
            have hu39 := Try.underlying55
            have hx0 : (0 : Int) ≤ (x : Int) := by omega
            have hx1 : (x : Int) < (n : Int) := by omega
            clear hN
            go_wp2_with fail
            go_still_tail 15, (by kernel_rfl)
            refine wpStill_load_mid rfl 55 (.tmp 55) rfl kb (x * 64) rfl s2 _ cs Try.underlying55 rfl his ?_
            repeat still_step
            refine wpStill_nil ?_
            change wpList _ _ _ _ _ w2.drew
            refine wpList_store_mid rfl 55 (.tmp 57) (.tmp 56) rfl lb (x * 64) s2.toArray rfl rfl ?_ ?_ (all_oneCell_toArray hs1) ?_
            · simpa [hs64] using ck
            · simpa using his
            go_wp2_with fail
            go_roundw
            case rel => exact ⟨i + 1, by omega, by go_num, by rw [HK.out]; exact HN.out⟩
            case measure => simp [intOf]; omega
          · obtain rfl : i = D.since.length := by omega
            have f2 := Own.free (h := hO) 2
            have c2 : wr.cell? ⟨d, 2, none⟩ = some (.slice (some ⟨sb, 0, none⟩) D.since.length cp) := Own.cell (h := hO) 2 (by decide)
            have HF := Lib.hid (since_nil hO)
            rw [← HE.out] at HF
            go_wp2_with fail
            go_end0
            exact ⟨rfl, HF.out⟩
end Go.Proofs.Ytpebpchnkhbcfaa
