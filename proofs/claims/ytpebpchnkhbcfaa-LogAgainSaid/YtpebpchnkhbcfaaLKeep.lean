/- A log keeps sectors: what it writes behind those that a root counts, and the root that counts them too. -/
import Derived.Test.YtpebpchnkhbcfaaLWrite
namespace Go.Proofs.Ytpebpchnkhbcfaa
open Go.RowKit
set_option linter.unusedVariables false
set_option linter.unusedSimpArgs false

def keptRow (l d s0 u0 : Nat) (lv : Value) (dead : Bool) (side used : Nat) (e : Int) : Rw := if e = 0 then rowLog l d side used lv dead else rowLog l d s0 u0 lv true

set_option maxHeartbeats 3200000 in
set_option maxRecDepth 100000 in
theorem keep_dk {W0 : Base} {w : World} {l d : Nat} {D : Dk} {s0 u0 : Nat} {lv : Value} {dead : Bool} {L : List Rw} (hA : DkAt W0 w d D (rowLog l d s0 u0 lv dead :: L)) (hc : Clean D) (hup : D.down = false) (h6 : 6 ≤ D.last.length) (side used h : Nat) (a : Option Addr) (c : Nat) (ws : List (List Value))
    (hL : SecsIn L a ws) (hsec : ∀ s ∈ ws, isSec s) (hs : side ≤ 1) (hh : h = (D.last.length - 2) / 2) (hf : used + ws.length ≤ h) (hst : D.steps ≤ 4611686018427000000) :
    Calls Try.prog 25 #[.pointer (some ⟨l, 0, none⟩), .agg #[.int .i64 side, .int .i64 used], .slice a ws.length c] w fun e w' => e = .returned (.int .i64 (keepM D h side used ws).2) ∧ DkAt W0 w' d (keepM D h side used ws).1 (keptRow l d s0 u0 lv dead side (used + ws.length) (keepM D h side used ws).2 :: L) := by
  have hm := hA.ok.le
  have hb := half_le D.last.length h6
  rw [← hh] at hb
  have hsh : side * h ≤ h := by
    rcases Nat.le_one_iff_eq_zero_or_eq_one.1 hs with rfl | rfl <;> omega
  obtain ⟨hW, hst1, hst2, hlf⟩ := writes_clean D hc hup hA.ok.left0 (2 + side * h + used) ws (by omega)
  have hA1 : DkAt W0 (w.alloc (.cells #[.int .i64 (side : Int), .int .i64 (used : Int)] 59)) d D (rowLog l d s0 u0 lv dead :: rowRoot w.heap.size side used :: L) := by
    obtain ⟨R, h1, h2⟩ := hA.open
    exact (h2 _ (rowRoot w.heap.size side used :: rowLog l d s0 u0 lv dead :: L) ((h1.root side used).perm List.perm_middle.symm)).perm (List.Perm.swap _ _ _)
  have HA1 := Lib.hid hA1
  have hpl := place_dk hA1 h6 side used hs (by omega)
  rw [← hh] at hpl
  have Hpl := Lib.hid hpl
  have hwr := write_dk hA1 (List.mem_cons_self ..) (2 + side * h + used) a c ws (hL.mono fun r hr => List.mem_cons_of_mem _ (List.mem_cons_of_mem _ hr)) hsec (by omega) (by omega) (by omega) (by rw [hc.1]; exact Nat.zero_le _)
  have Hwr := Lib.hid hwr
  have hK : keepM D h side used ws = if (writesM D (2 + side * h + used) ws).2 ≠ 0 then writesM D (2 + side * h + used) ws else writesM (writesM D (2 + side * h + used) ws).1 0 [bs (rootB side (used + ws.length))] := rfl
  have hlt : w.heap.size < (w.alloc (.cells #[.int .i64 (side : Int), .int .i64 (used : Int)] 59)).heap.size := by simp
  generalize hP : writesM D (2 + side * h + used) ws = p at *
  obtain ⟨D1, e1⟩ := p
  simp only at hK hW hst1 hst2 hlf
  have HK := Lib.hid hK
  have HW := Lib.hid hW
  have Hst := Lib.hid (show D1.steps ≤ 4611686018427387904 by omega)
  have hnu : used + ws.length ≤ 4096 := by omega
  have hnw : ws.length ≤ 4096 := by omega
  obtain ⟨q, hq⟩ : ∃ q, 2 + side * h + used = q := ⟨_, rfl⟩
  rw [hq] at Hpl Hwr
  clear hA hA1 hpl hwr hK hW hst1 hst2 hlf hst hP hq hL hsec hh hf hb hsh hm h6 hc hup
  obtain ⟨R1, hR1, hR2⟩ := HA1.out.open
  obtain ⟨b0, b1⟩ := root_cells hR1 (g := w.heap.size) (a := side) (b := used) (by simp)
  clear hR1 hR2 R1
  go_enter Try.func25, Try.ntmps25
  go_wp2_with fail
  generalize w.alloc (.cells #[.int .i64 (side : Int), .int .i64 (used : Int)] 59) = w1 at *
  generalize w.heap.size = H at *
  refine Hpl.out.mono ?_
  rintro e w' ⟨rfl, rfl⟩
  go_wp2_with fail
  refine Hwr.out.mono ?_
  rintro e w2 ⟨rfl, hA2⟩
  have HA2 := Lib.hid hA2
  obtain ⟨c0, c1, c2, c3, c4⟩ := log_cells_mem hA2 (List.mem_cons_self ..)
  have hown := hA2.own
  obtain ⟨g0, g1⟩ := root_cells hown (g := H) (a := side) (b := used) (by simp)
  clear hA2 b0 b1
  by_cases he : e1 = 0
  · subst he
    obtain ⟨u, hu⟩ : ∃ u, used + ws.length = u := ⟨_, rfl⟩
    have hsum : (used : Int) + (ws.length : Int) = (u : Int) := by omega
    have f1 : w2.frozen? ⟨H, 1, none⟩ = false := Own.free (h := hown.only (show rowRoot H side used ∈ _ by simp)) 1
    have hA3 : DkAt W0 (w2.setCell ⟨H, 1, none⟩ (.int .i64 (u : Int))) d D1 (rowRoot H side u :: rowLog l d s0 u0 lv dead :: L) := DkAt.onSet (h := HA2.out.perm (List.Perm.swap _ _ _)) 1 (.int .i64 (u : Int))
    have HA3 := Lib.hid hA3
    have HU := Lib.hid hu
    rw [hu] at hnu HK
    have hirt : (Try.prog.info? 59).map (·.size) = some [Value.int .i64 (side : Int), .int .i64 (u : Int)].length := info_root
    have hr3 : (w2.setCell ⟨H, 1, none⟩ (.int .i64 (u : Int))).rangeAt H 0 [Value.int .i64 (side : Int), .int .i64 (u : Int)] := by
      have := Own.range (h := hA3.own.only (List.mem_cons_self ..)) 0 2
      exact this
    clear hown hA3 hu HA2 c0 c1 c2 c3 c4
    go_wp2_with (refine wpList_load_mid rfl 59 (.tmp 4) rfl H 0 rfl [.int .i64 (side : Int), .int .i64 (u : Int)] _ ?hr Try.underlying59 rfl hirt ?_)
    case hr => first | exact hr3 | (rw [hsum]; exact hr3)
    refine (sector_any side u _ hs hnu).mono ?_
    rintro e w4 ⟨rfl, hb4⟩
    obtain ⟨cs, hcs⟩ : ∃ cs, bs (rootB side u) = cs := ⟨_, rfl⟩
    have hl64 : cs.length = 64 := by rw [← hcs, bs_length, rootB_length]
    have hA4 := HA3.out.later hb4
    have hA5 : DkAt W0 (w4.alloc (.cells cs.toArray 55)) d D1 (rowLog l d s0 u0 lv dead :: rowSec w4.heap.size cs :: rowRoot H side u :: L) := by
      obtain ⟨R, h1, h2⟩ := (hA4.perm (List.Perm.swap _ _ _)).open
      exact (h2 _ (rowSec w4.heap.size cs :: rowLog l d s0 u0 lv dead :: rowRoot H side u :: L) ((h1.sec cs hl64 _ rfl).perm List.perm_middle.symm)).perm (List.Perm.swap _ _ _)
    have hwr2 := write_dk hA5 (List.mem_cons_self ..) 0 (some ⟨w4.heap.size, 0, none⟩) 1 [cs] (fun _ => ⟨_, 1, rfl, by simp [rowSec]⟩) (fun s hs => by rw [List.mem_singleton.1 hs, ← hcs]; exact isSec_bs _ (rootB_length _ _)) (by decide) (by simp) Hst.out (by rw [HW.out.clean.1]; exact Nat.zero_le _)
    have Hwr2 := Lib.hid hwr2
    obtain ⟨i0, hi, hz0, hz1, hz2⟩ := info_parts info_s
    have HK2 := HK.out
    rw [if_neg (by decide), hcs] at HK2
    have HK3 := Lib.hid HK2
    have HCS := Lib.hid hcs
    have hzz : (Value.agg zSec.toArray).cells.size = 64 := rfl
    rw [hcs]
    clear hA4 hA5 hwr2 hb4 hcs HK2 HA3 HK Hwr Hpl HA1 hr3 g0 g1
    go_wp2_with (refine wpList_buildSlice_one rfl 50 (.tmp 27) rfl 55 64 i0 (.agg zSec.toArray) Try.underlying50 hi hz1 hz0 hzz (by decide) (by decide) cs rfl hl64 ?_)
    refine Hwr2.out.mono ?_
    rintro e w6 ⟨rfl, hA6⟩
    clear Hwr2
    generalize hP2 : writesM D1 0 [cs] = p2 at *
    obtain ⟨D2, e2⟩ := p2
    simp only at hA6 ⊢
    have hA6' : DkAt W0 w6 d D2 (rowLog l d s0 u0 lv dead :: rowRoot H side u :: L) := hA6.sub (.cons_cons _ (.cons _ (List.Sublist.refl _)))
    obtain ⟨c0, c1, c2, c3, c4, cf, clt⟩ := log_cells hA6'
    have cf4 := cf 4
    have hr6 : w6.rangeAt H 0 [Value.int .i64 (side : Int), .int .i64 (u : Int)] := by
      have := Own.range (h := hA6'.own.only (show rowRoot H side u ∈ _ by simp)) 0 2
      exact this
    have ht6 : w6.there l 1 2 := by
      obtain ⟨R, h1, _⟩ := hA6'.first
      exact Own.there (h := h1) 1 2 (by decide)
    by_cases he2 : e2 = 0
    · subst he2
      have hF : DkAt W0 (w6.setCells l 1 [Value.int .i64 (side : Int), .int .i64 (u : Int)]) d D2 (rowLog l d side u lv dead :: rowRoot H side u :: L) := DkAt.onSets (h := hA6') [Value.int .i64 (side : Int), .int .i64 (u : Int)] 1
      have HF := Lib.hid (hF.sub (.cons_cons _ (.cons _ (List.Sublist.refl _))) : DkAt W0 _ d D2 (rowLog l d side u lv dead :: L))
      have HP2 := Lib.hid hP2
      have cf1 := cf 1
      have cf2 := cf 2
      clear hF hA6 hA6' hP2 cf c0 c3 c4 cf4
      go_wp2_with (first
        | (refine wpList_load_mid rfl 59 (.tmp 4) rfl H 0 rfl [.int .i64 (side : Int), .int .i64 (u : Int)] _ hr6 Try.underlying59 rfl hirt ?_)
        | (refine wpList_store_mid rfl 59 (.tmp 39) (.tmp 37) rfl l 1 #[.int .i64 (side : Int), .int .i64 (u : Int)] rfl rfl ht6 hirt rfl ?_))
      go_ret
      refine ⟨by rw [HK3.out]; rfl, ?_⟩
      rw [HK3.out, HU.out]
      exact HF.out
    · have he2' : (e2 != 0) = true := by simpa using he2
      have hF : DkAt W0 (w6.setCell ⟨l, 4, none⟩ (.bool true)) d D2 (rowLog l d s0 u0 lv true :: rowRoot H side u :: L) := DkAt.onSet (h := hA6') 4 (.bool true)
      have HF := Lib.hid (hF.sub (.cons_cons _ (.cons _ (List.Sublist.refl _))) : DkAt W0 _ d D2 (rowLog l d s0 u0 lv true :: L))
      have HE2 := Lib.hid (show ∀ r, keptRow l d s0 u0 lv dead side r e2 = rowLog l d s0 u0 lv true from fun r => if_neg he2)
      clear hF hA6 hA6' hP2 cf c0 c1 c2 c3 hr6 ht6 he2
      go_wp2_with fail
      go_ret
      refine ⟨by rw [HK3.out]; rfl, ?_⟩
      rw [HK3.out, HE2.out]
      exact HF.out
  · have he' : (e1 == 0) = false := by simpa using he
    have he'' : (e1 != 0) = true := by simpa using he
    have hA2' : DkAt W0 w2 d D1 (rowLog l d s0 u0 lv dead :: L) := HA2.out.sub (.cons_cons _ (.cons _ (List.Sublist.refl _)))
    have HF := Lib.hid (DkAt.onSet (h := hA2') 4 (.bool true) : DkAt W0 (w2.setCell ⟨l, 4, none⟩ (.bool true)) d D1 (rowLog l d s0 u0 lv true :: L))
    obtain ⟨_, _, _, _, _, cf, clt⟩ := log_cells hA2'
    have cf4 := cf 4
    have HE2 := Lib.hid (show ∀ r, keptRow l d s0 u0 lv dead side r e1 = rowLog l d s0 u0 lv true from fun r => if_neg he)
    have HK2 := HK.out
    rw [if_pos he] at HK2
    have HK3 := Lib.hid HK2
    clear hA2' HA2 cf c0 c1 c2 c3 he HK HK2 Hpl Hwr HA1 hown g0 g1
    go_wp2_with fail
    go_ret
    refine ⟨by rw [HK3.out]; rfl, ?_⟩
    rw [HK3.out, HE2.out]
    exact HF.out
end Go.Proofs.Ytpebpchnkhbcfaa
