/- The document's own answer for the sum, as it is written in Go: what its loops come to. -/
import Derived.Test.YtokokppifgoiaaaOf
import Derived.Test.YtokokppifgoiaaaSame
import Derived.Deep.AppendLies
import Derived.OwnWalk
import Derived.IntWalk
import Derived.Below
import Derived.Deep.DeepCutAuto
namespace Go.Proofs.Ytokokppifgoiaaa
set_option linter.unusedVariables false
set_option linter.unusedSimpArgs false
open Go.RowKit

theorem info3 : (Try.prog.info? 3).map (fun i => (i.zero, i.size, i.bytes)) = some (some (.int .i64 0), 1, 8) := by kernel_rfl

abbrev ints (l : List Int) : List Value := l.map (Value.int .i64)

/-- One number more behind a row of the call's own. -/
theorem own_snoc {B : Nat} {w wr w1 : World} {u v' : Value} {L : List Int} {y : Int} {o : Obj} (hown' : w1.ownsRow B 3 1 v' (L.length + 1) (ints L ++ [.int .i64 y])) (hgrow : (wr.alloc o).grownBy w1 u.ownBlock)
    (hown : wr.ownsRow B 3 1 u L.length (ints L)) (hnx : Below B w wr) (hB : B ≤ w.heap.size := by exact Nat.le_refl _) : w1.ownsRow B 3 1 v' (L ++ [y]).length (ints (L ++ [y])) ∧ Below B w w1 := by
  have := hnx.size
  exact ⟨by simpa [ints] using hown', (hnx.alloc (by omega) o).grown hgrow (by simp; omega) fun k hk => (hown.lt k hk).1⟩
theorem own_cell {B b off : Nat} {wr w1 : World} {u x : Value} {n : Nat} {L : List Value} {o : Obj} (hgrow : (wr.alloc o).grownBy w1 u.ownBlock)
    (hown : wr.ownsRow B 3 1 u n L) (hc : wr.cell? ⟨b, off, none⟩ = some x) (hb : b < B) : w1.cell? ⟨b, off, none⟩ = some x := by
  have hlt := World.block_lt_of_cell? wr _ hc
  refine hgrow.cell ((World.cell?_alloc_past _ _ _ hlt).trans hc) fun h => ?_
  have := (hown.lt b h.symm).1
  omega

/-- A number of such a row is read; one is written. -/
theorem own_at {B g cap N : Nat} {wr : World} {L : List Int} (hown : wr.ownsRow B 3 1 (.slice (some ⟨g, 0, none⟩) N cap) N (ints L)) (j : Nat) (hj : j < N) : wr.cell? ⟨g, j, none⟩ = some (.int .i64 (at0 L j)) := by
  have hl : L.length = N := by have := hown.1; simpa [ints] using this
  rw [hown.cellAt j (by omega)]
  unfold at0
  simp [ints, List.getD_eq_getElem?_getD, List.getElem?_eq_getElem (show j < L.length by omega)]
theorem own_set {B g cap N : Nat} {w wr : World} {L : List Int} (hown : wr.ownsRow B 3 1 (.slice (some ⟨g, 0, none⟩) N cap) N (ints L)) (hnx : Below B w wr) (hg : B ≤ g) (j : Nat) (y : Int) :
    (wr.setCell ⟨g, j, none⟩ (.int .i64 y)).ownsRow B 3 1 (.slice (some ⟨g, 0, none⟩) N cap) N (ints (L.set j y)) ∧ Below B w (wr.setCell ⟨g, j, none⟩ (.int .i64 y)) := by
  have h := (hown.stored j (.int .i64 y)).1
  refine ⟨?_, hnx.setCell hg _⟩
  have e : (ints L).set j (.int .i64 y) = ints (L.set j y) := by simp [ints, List.map_set]
  rw [e] at h
  exact h

/-- The polynomial's row. -/
def PolyAt (w : World) (P : Nat) : Prop := ∀ q, q < 33 → w.cell? ⟨P, q, none⟩ = some (.int .i64 (at0 poly q))
theorem polyAt_new (w : World) : PolyAt (w.alloc (.cells (ints poly).toArray 3)) w.heap.size := by
  intro q hq
  rw [World.cell?_alloc_new]
  have : q < poly.length := hq
  unfold at0
  simp [ints, List.getD_eq_getElem?_getD, List.getElem?_eq_getElem this]

theorem PolyAt.setCell {w : World} {P g : Nat} (h : PolyAt w P) (hg : g ≠ P) (j : Nat) (v : Value) : PolyAt (w.setCell ⟨g, j, none⟩ v) P := fun q hq => by
  rw [World.cell?_setCell_other w ⟨g, j, none⟩ ⟨P, q, none⟩ v (by intro e; injection e with e1; exact hg e1)]
  exact h q hq

theorem out32 (s : BitVec 32) (x : Int) (j : Nat) (h0 : 0 ≤ x) (h1 : x ≤ 1) : ((s.toNat : Int) + (1 - x) * 2 ^ j % 4294967296) % 4294967296 = ((s + BitVec.ofInt 32 (1 - x) <<< j).toNat : Int) := by
  have e : ((BitVec.ofInt 32 (1 - x)).toNat : Int) = 1 - x := toNat_ofInt _ (by omega) (by omega)
  generalize BitVec.ofInt 32 (1 - x) = b at *
  rw [BitVec.toNat_add, BitVec.toNat_shiftLeft, Nat.shiftLeft_eq, ← e]
  simp

set_option maxHeartbeats 1600000 in
set_option maxRecDepth 100000 in
theorem ref_any (v : Value) (zs : List Int) (w : World) (hv : IsBytes w v zs) (hn : zs.length ≤ 300) :
    Calls Try.prog 8 #[v] w fun e w' => e = .returned (.int .u32 ((crc zs).toNat : Int)) ∧ Below w.heap.size w w' := by
  obtain ⟨a, cap, rfl, _, hz, hwz⟩ := hv
  have HS : Hid (outTo (divTo (flipTo (allBits zs ++ List.replicate 32 0) 32) (8 * zs.length)) (8 * zs.length) 32 = crc zs) := ref_crc zs hwz
  obtain ⟨i0, hi, hz0, hz1, hz2⟩ := info_parts info3
  go_enter Try.func8, Try.ntmps8
  go_wp2_with fail
  go_loopw [3, 4] (fun s i wr => ∃ k : Nat, k ≤ zs.length ∧ i = .int .i64 k ∧ wr.ownsRow w.heap.size 3 1 s (allBits (zs.take k)).length (ints (allBits (zs.take k))) ∧ Below w.heap.size w wr) (fun _ i _ => zs.length - (intOf i).toNat)
  case atStart => exact ⟨0, Nat.zero_le _, rfl, World.ownsRow_made w #[] 0 (Nat.le_refl _) (Nat.zero_le _) rfl, (Below.refl _ _).alloc (Nat.le_refl _) _⟩
  case round =>
    obtain ⟨k, hk, rfl, hown, hnx⟩ := hrel
    by_cases hlt : k < zs.length
    · obtain ⟨b, off, rfl, hcz⟩ := hz (by intro h; rw [h] at hlt; simp at hlt)
      have hb : b < w.heap.size := World.block_lt_of_cell? w _ (hcz k hlt)
      have hx := hwz _ (List.getElem_mem hlt)
      have hcx := (hnx.cell (p := ⟨b, off + k, none⟩) hb).trans (hcz k hlt)
      have hgd : zs.getD k 0 = zs[k] := by simp [List.getD, List.getElem?_eq_getElem hlt]
      rw [hgd] at hcx
      have HF : Hid (allBits (zs.take (k + 1)) = allBits (zs.take k) ++ bitsTo zs[k] 8) := allBits_take zs k hlt
      have HL : Hid ((allBits (zs.take k)).length = 8 * k) := by have := allBits_length (zs.take k); rw [List.length_take, Nat.min_eq_left hk] at this; exact this
      generalize allBits (zs.take k) = X at *
      generalize zs[k] = x at *
      clear hcz hz hwz hgd
      obtain ⟨hx0, hx1⟩ := hx
      go_wp2_with fail
      go_loopw [3, 5] (fun s i wr => ∃ j : Nat, j ≤ 8 ∧ i = .int .i64 j ∧ wr.ownsRow w.heap.size 3 1 s (X ++ bitsTo x j).length (ints (X ++ bitsTo x j)) ∧ wr.cell? ⟨b, off + k, none⟩ = some (.int .u8 x) ∧ Below w.heap.size w wr) (fun _ i _ => 8 - (intOf i).toNat)
      case atStart => exact ⟨0, by omega, rfl, by simpa [bitsTo] using hown, hcx, hnx⟩
      case round =>
        obtain ⟨j, hj, rfl, hown, hcx, hnx⟩ := hrel
        by_cases hlj : j < 8
        · have HY : Hid (X ++ bitsTo x (j + 1) = X ++ bitsTo x j ++ [bitAt x j]) := by show _ = _; rw [List.append_assoc, ← bitsTo_succ]
          have HYL : Hid ((X ++ bitsTo x j).length = 8 * k + j) := by show _ = _; rw [List.length_append, HL.out, bitsTo_length]
          generalize X ++ bitsTo x j = Y at *
          go_wp2_with (at_builtin; refine wpList_append_own _ rfl (.tmp 24) (.tmp 34) 33 rfl w.heap.size 3 i0 (.int .i64 0) 1 8 Try.underlying33 hi hz0 hz1 hz2 rfl (by decide) _ _ _ rfl (hown.alloc _) ⟨wr.heap.size, 0, none⟩ 1 1 [.int .i64 (bitAt x j)] rfl rfl ?c1 ?c2 ?c3 ?c4 ?c5 ?_)
          case c1 =>
            intro j u hj
            match j, hj with
            | 0, hj => simp at hj; subst hj; simp [Addr.add, bitAt]
          case c2 => intro u hu; simp at hu; subst hu; rfl
          case c3 => have := HYL.out; unfold maxLen; omega
          case c4 => have := HYL.out; omega
          case c5 => have := hnx.size; simp; omega
          intro v' w1 hown' hgrow _
          have hR := own_snoc hown' hgrow hown hnx
          have hcy := own_cell hgrow hown hcx (by omega)
          have hs := hnx.size
          clear hgrow hown' hown hcx hnx
          obtain ⟨hown', hnx'⟩ := hR
          rw [← HY.out] at hown'
          go_wp2_with fail
          go_roundw
          case rel => exact ⟨j + 1, by omega, by go_num, hown', hcy, hnx'⟩
          case measure => simp [intOf]; omega
        · obtain rfl : j = 8 := by omega
          rw [← HF.out] at hown
          go_wp2_with fail
          go_roundw
          case rel => exact ⟨k + 1, by omega, by go_num, hown, hnx⟩
          case measure => simp [intOf]; omega
    · obtain rfl : k = zs.length := by omega
      rw [List.take_length] at hown
      have HL : Hid ((allBits zs).length = 8 * zs.length) := allBits_length zs
      have HBX := Lib.hid (Bits.all zs hwz)
      generalize allBits zs = X at *
      clear hz
      go_wp2_with fail
      go_loopw [3, 6] (fun s i wr => ∃ j : Nat, j ≤ 32 ∧ i = .int .i64 j ∧ wr.ownsRow w.heap.size 3 1 s (X ++ List.replicate j 0).length (ints (X ++ List.replicate j 0)) ∧ Below w.heap.size w wr) (fun _ i _ => 32 - (intOf i).toNat)
      case atStart => exact ⟨0, by omega, rfl, by simpa using hown, hnx⟩
      case round =>
        obtain ⟨j, hj, rfl, hown, hnx⟩ := hrel
        by_cases hlj : j < 32
        · have HY : Hid (X ++ List.replicate (j + 1) 0 = X ++ List.replicate j 0 ++ [(0 : Int)]) := by show _ = _; rw [List.append_assoc, ← List.replicate_succ']
          have HYL : Hid ((X ++ List.replicate j (0 : Int)).length = 8 * zs.length + j) := by show _ = _; rw [List.length_append, HL.out, List.length_replicate]
          generalize X ++ List.replicate j (0 : Int) = Y at *
          go_wp2_with (at_builtin; refine wpList_append_own _ rfl (.tmp 40) (.tmp 41) 33 rfl w.heap.size 3 i0 (.int .i64 0) 1 8 Try.underlying33 hi hz0 hz1 hz2 rfl (by decide) _ _ _ rfl (hown.alloc _) ⟨wr.heap.size, 0, none⟩ 1 1 [.int .i64 0] rfl rfl ?d1 ?d2 ?d3 ?d4 ?d5 ?_)
          case d1 =>
            intro j u hj
            match j, hj with
            | 0, hj => simp at hj; subst hj; simp [Addr.add]
          case d2 => intro u hu; simp at hu; subst hu; rfl
          case d3 => have := HYL.out; unfold maxLen; omega
          case d4 => have := HYL.out; omega
          case d5 => have := hnx.size; simp; omega
          intro v' w1 hown' hgrow _
          have hR := own_snoc hown' hgrow hown hnx
          have hs := hnx.size
          clear hgrow hown' hown hnx
          obtain ⟨hown', hnx'⟩ := hR
          rw [← HY.out] at hown'
          go_wp2_with fail
          go_roundw
          case rel => exact ⟨j + 1, by omega, by go_num, hown', hnx'⟩
          case measure => simp [intOf]; omega
        · obtain rfl : j = 32 := by omega
          have HB : Hid (Bits (X ++ List.replicate 32 0)) := HBX
          have HN : Hid ((X ++ List.replicate 32 (0 : Int)).length = 8 * zs.length + 32) := by show _ = _; rw [List.length_append, HL.out, List.length_replicate]
          generalize X ++ List.replicate 32 (0 : Int) = M at *
          obtain ⟨g, cp, rfl, hg, hgs⟩ := hown.form (by have := HN.out; omega)
          rw [HN.out] at hown
          rw [HN.out]
          go_wp2_with fail
          go_loopw [7] (fun i wr => ∃ j : Nat, j ≤ 32 ∧ i = .int .i64 j ∧ wr.ownsRow w.heap.size 3 1 (.slice (some ⟨g, 0, none⟩) (8 * zs.length + 32) cp) (8 * zs.length + 32) (ints (flipTo M j)) ∧ Below w.heap.size w wr) (fun i _ => 32 - (intOf i).toNat)
          case atStart => exact ⟨0, by omega, rfl, hown, hnx⟩
          case round =>
            obtain ⟨j, hj, rfl, hown, hnx⟩ := hrel
            by_cases hlj : j < 32
            · have hc := own_at hown j (by omega)
              have hf := hown.frozenAt j
              have hR := own_set hown hnx hg j (1 - at0 (flipTo M j) j)
              have hb := HB.out.flipTo j j
              have H1 : Hid (flipTo M (j + 1) = (flipTo M j).set j (1 - at0 (flipTo M j) j)) := rfl
              generalize at0 (flipTo M j) j = x at *
              have hb0 : 0 ≤ x := by omega
              have hb1 : x ≤ 1 := by omega
              have HR := Lib.hid hR
              clear hR hb hown
              go_wp2_with fail
              go_roundw
              case rel => exact ⟨j + 1, by omega, by go_num, by rw [H1.out]; exact HR.out.1, HR.out.2⟩
              case measure => simp [intOf]; omega
            · obtain rfl : j = 32 := by omega
              have HB0 := Lib.hid (HB.out.flipTo 32)
              generalize flipTo M 32 = L at *
              have hgs := (hown.lt g rfl).2
              have hnx0 := hnx.size
              obtain ⟨W1, rfl⟩ : ∃ W1 : World, W1 = wr := ⟨_, rfl⟩
              go_wp2_with fail
              go_loopw [9, 10] (fun i _ wx => ∃ k : Nat, k ≤ 8 * zs.length ∧ i = .int .i64 k ∧ wx.ownsRow w.heap.size 3 1 (.slice (some ⟨g, 0, none⟩) (8 * zs.length + 32) cp) (8 * zs.length + 32) (ints (divTo L k)) ∧ PolyAt wx W1.heap.size ∧ Below w.heap.size w wx) (fun i _ _ => 8 * zs.length - (intOf i).toNat)
              case atStart => exact ⟨0, by omega, rfl, hown.alloc _, polyAt_new _, hnx.alloc (by omega) _⟩
              case round =>
                obtain ⟨k, hk, rfl, hown, hpo, hnx⟩ := hrel
                by_cases hlk : k < 8 * zs.length
                · have hc := own_at hown k (by omega)
                  have HBk := Lib.hid (HB0.out.divTo k)
                  have HD : Hid (divTo L (k + 1) = if at0 (divTo L k) k = 1 then addTo (divTo L k) k 33 else divTo L k) := rfl
                  generalize divTo L k = D at *
                  by_cases h1 : at0 D k = 1
                  · rw [if_pos h1] at HD
                    have h1' : (at0 D k == 1) = true := by rw [h1]; rfl
                    have H1 := Lib.hid h1
                    clear h1
                    go_wp2_with fail
                    go_loopw [10] (fun i wx => ∃ j : Nat, j ≤ 33 ∧ i = .int .i64 j ∧ wx.ownsRow w.heap.size 3 1 (.slice (some ⟨g, 0, none⟩) (8 * zs.length + 32) cp) (8 * zs.length + 32) (ints (addTo D k j)) ∧ PolyAt wx W1.heap.size ∧ Below w.heap.size w wx) (fun i _ => 33 - (intOf i).toNat)
                    case atStart => exact ⟨0, by omega, rfl, hown, hpo, hnx⟩
                    case round =>
                      obtain ⟨j, hj, rfl, hown, hpo, hnx⟩ := hrel
                      by_cases hlj : j < 33
                      · have hc := own_at hown (k + j) (by omega)
                        have hf := hown.frozenAt (k + j)
                        have hp := hpo j hlj
                        have hR := own_set hown hnx hg (k + j) ((at0 (addTo D k j) (k + j) + at0 poly j).tmod 2)
                        have hP := hpo.setCell (g := g) (by omega) (k + j) (.int .i64 ((at0 (addTo D k j) (k + j) + at0 poly j).tmod 2))
                        have hb := HBk.out.addTo k j (k + j)
                        have hq := bits_poly j
                        have HJ : Hid (addTo D k (j + 1) = (addTo D k j).set (k + j) ((at0 (addTo D k j) (k + j) + at0 poly j).tmod 2)) := rfl
                        generalize at0 (addTo D k j) (k + j) = x at *
                        generalize at0 poly j = y at *
                        have hb0 : 0 ≤ x := by omega
                        have hb1 : x ≤ 1 := by omega
                        have hq0 : 0 ≤ y := by omega
                        have hq1 : y ≤ 1 := by omega
                        have HR := Lib.hid hR
                        have HP := Lib.hid hP
                        rw [Int.tmod_eq_emod_of_nonneg (by omega)] at HJ HR HP
                        clear hR hP hb hq hown hpo
                        go_wp2_with fail
                        have e1 : IntKind.i64.wrap ((k : Int) + (j : Int)) = (k : Int) + (j : Int) := IntWalk.i64_in _ (by omega)
                        have e2 : (0 : Int) ≤ (k : Int) + (j : Int) := by omega
                        have e3 : ((k : Int) + (j : Int)).toNat = k + j := by omega
                        have e4 : (k : Int) + (j : Int) < 8 * (zs.length : Int) + 32 := by omega
                        have e5 : IntKind.i64.wrap (x + y) = x + y := IntWalk.i64_in _ (by omega)
                        go_region
                        all_goals (clear e1 e2 e3 e4 e5)
                        all_goals go_wp2_with fail
                        all_goals go_roundw
                        case rel => exact ⟨j + 1, by omega, by go_num, by rw [HJ.out]; exact HR.out.1.drew, HP.out, HR.out.2.drew⟩
                        case measure => simp [intOf]; omega
                      · obtain rfl : j = 33 := by omega
                        rw [← HD.out] at hown
                        go_wp2_with fail
                        go_roundw
                        case rel => exact ⟨k + 1, by omega, by go_num, hown, hpo, hnx⟩
                        case measure => simp [intOf]; omega
                  · rw [if_neg h1] at HD
                    have h1' : (at0 D k == 1) = false := by simpa using h1
                    clear h1
                    go_wp2_with fail
                    go_roundw
                    case rel => exact ⟨k + 1, by omega, by go_num, by rw [HD.out]; exact hown, hpo, hnx⟩
                    case measure => simp [intOf]; omega
                · obtain rfl : k = 8 * zs.length := by omega
                  have HBD := Lib.hid (HB0.out.divTo (8 * zs.length))
                  generalize divTo L (8 * zs.length) = D at *
                  go_wp2_with fail
                  go_loop [11, 12] (fun s i => ∃ j : Nat, j ≤ 32 ∧ i = .int .i64 j ∧ s = .int .u32 ((outTo D (8 * zs.length) j).toNat : Int)) (fun _ i => 32 - (intOf i).toNat)
                  case atStart => exact ⟨0, by omega, rfl, rfl⟩
                  case round =>
                    obtain ⟨j, hj, rfl, rfl⟩ := hrel
                    by_cases hlj : j < 32
                    · have hc := own_at hown (8 * zs.length + j) (by omega)
                      have hb := HBD.out (8 * zs.length + j)
                      generalize hx : at0 D (8 * zs.length + j) = x at *
                      have HX := Lib.hid hx
                      clear hx
                      have hb0 : 0 ≤ x := by omega
                      have hb1 : x ≤ 1 := by omega
                      clear hb
                      go_wp2_with fail
                      go_round
                      case rel => exact ⟨j + 1, by omega, by go_num, by rw [out32 _ _ _ hb0 hb1, ← HX.out]; rfl⟩
                      case measure => simp [intOf]; omega
                    · obtain rfl : j = 32 := by omega
                      go_wp2_with fail
                      go_ret
                      exact ⟨congrArg Ending.returned (u32_congr HS.out), hnx⟩
end Go.Proofs.Ytokokppifgoiaaa
