/- Records are kept in the place of all others. -/
import Derived.Test.YtpebpchnkhbcfaaLApp
namespace Go.Proofs.Ytpebpchnkhbcfaa
open Go.RowKit
set_option linter.unusedVariables false
set_option linter.unusedSimpArgs false

theorem LgAt.first {W0 : Base} {w : World} {l d : Nat} {D : Dk} {side used : Nat} {recs : List (List Int)} {dead : Bool} {L : List Rw} {r : Rw} (h : LgAt W0 w l d D side used recs dead (r :: L)) : ∃ R : List Rw, Own W0 w (r :: R) ∧ (∀ w' r', Own W0 w' (r' :: R) → LgAt W0 w' l d D side used recs dead (r' :: L)) := by
  obtain ⟨lv, vs, M, h1, h2⟩ := h.rest
  obtain ⟨R, h3, h4⟩ := h1.open
  refine ⟨R ++ (rowLog l d side used lv dead :: rowV lv vs :: (M ++ L)), h3.perm ?_, fun w' r' h' => ⟨h.six, h.sides, h.fit, lv, vs, M, h4 _ _ (h'.perm ?_), h2⟩⟩
  · have e : R ++ (rowLog l d side used lv dead :: rowV lv vs :: (M ++ (r :: L))) = (R ++ (rowLog l d side used lv dead :: rowV lv vs :: M)) ++ (r :: L) := by simp
    have e2 : r :: (R ++ (rowLog l d side used lv dead :: rowV lv vs :: (M ++ L))) = r :: ((R ++ (rowLog l d side used lv dead :: rowV lv vs :: M)) ++ L) := by simp
    rw [e, e2]
    exact List.perm_middle
  · have e : R ++ (rowLog l d side used lv dead :: rowV lv vs :: (M ++ (r' :: L))) = (R ++ (rowLog l d side used lv dead :: rowV lv vs :: M)) ++ (r' :: L) := by simp
    have e2 : r' :: (R ++ (rowLog l d side used lv dead :: rowV lv vs :: (M ++ L))) = r' :: ((R ++ (rowLog l d side used lv dead :: rowV lv vs :: M)) ++ L) := by simp
    rw [e, e2]
    exact List.perm_middle.symm
theorem LgAt.perm {W0 : Base} {w : World} {l d : Nat} {D : Dk} {side used : Nat} {recs : List (List Int)} {dead : Bool} {L L' : List Rw} (h : LgAt W0 w l d D side used recs dead L) (hp : L.Perm L') : LgAt W0 w l d D side used recs dead L' := by
  obtain ⟨lv, vs, M, h1, h2⟩ := h.rest
  exact ⟨h.six, h.sides, h.fit, lv, vs, M, h1.perm (((List.Perm.append_left M hp).cons _).cons _), h2⟩
theorem LgAt.nilSecs {W0 : Base} {w : World} {l d : Nat} {D : Dk} {side used : Nat} {recs : List (List Int)} {dead : Bool} {L : List Rw} (h : LgAt W0 w l d D side used recs dead L) : LgAt W0 w l d D side used recs dead (rowSecs (.slice none 0 0) [] :: L) :=
  h.join ((Own.start w).nil 55 64)
theorem secsB_take_le (recs : List (List Int)) (k : Nat) : (secsB (recs.take k)).length ≤ (secsB recs).length := by
  have h : secsB recs = secsB (recs.take k) ++ secsB (recs.drop k) := by rw [← secsB_append, List.take_append_drop]
  rw [h, List.length_append]; omega
theorem built_root (x : Int) : Try.prog.built 59 [(0, .int .i64 x)] = some #[.int .i64 x, .int .i64 0] := by kernel_rfl
theorem flat_one (ss : List (List Int)) : ∀ u ∈ (ss.map bs).flatten, u.oneCell' = true := by
  intro u hu
  obtain ⟨l, hl, hu⟩ := List.mem_flatten.1 hu
  obtain ⟨x, _, rfl⟩ := List.mem_map.1 hl
  exact bs_one x u hu
theorem flat_len (ss : List (List Int)) (h : ∀ s ∈ ss, s.length = 64) : ((ss.map bs).flatten).length = ss.length * 64 := by
  rw [flat_length 64 _ (fun s hs => by obtain ⟨x, hx, rfl⟩ := List.mem_map.1 hs; rw [bs_length]; exact h x hx), List.length_map]

set_option maxHeartbeats 3200000 in
set_option maxRecDepth 100000 in
theorem rewrite_lg {W0 : Base} {w : World} {l d : Nat} {D : Dk} {side used : Nat} {recs : List (List Int)} {dead : Bool} {L : List Rw} (h : LgAt W0 w l d D side used recs dead L) (a : Option Addr) (c : Nat) (PS : List (Value × List Int)) (recs2 : List (List Int)) (h2 : PS.map (·.2) = recs2) (hP : ∀ w', Own W0 w' L → Parts w' a PS) (hn : PS.length ≤ 1000000)
    (hc : Clean D) (hst : D.steps ≤ 4611686018427000000) (code : Int) (hcode : code = refM dead D.down ((D.last.length - 2) / 2) recs2)
    (Q : Ending → World → Prop) (hno : ∀ w', code ≠ 0 → LgAt W0 w' l d D side used recs (dead || D.down) L → Q (.returned (.int .i64 code)) w')
    (hyes : ∀ w', code = 0 → (keepM D ((D.last.length - 2) / 2) (1 - side) 0 (secsV recs2)).2 = 0 → LgAt W0 w' l d (keepM D ((D.last.length - 2) / 2) (1 - side) 0 (secsV recs2)).1 (1 - side) (secsB recs2).length recs2 false L → Q (.returned (.int .i64 0)) w')
    (hbad : ∀ w', code = 0 → (keepM D ((D.last.length - 2) / 2) (1 - side) 0 (secsV recs2)).2 ≠ 0 → LgAt W0 w' l d (keepM D ((D.last.length - 2) / 2) (1 - side) 0 (secsV recs2)).1 side used recs true L → Q (.returned (.int .i64 (keepM D ((D.last.length - 2) / 2) (1 - side) 0 (secsV recs2)).2)) w') :
    Calls Try.prog 15 #[.pointer (some ⟨l, 0, none⟩), .slice a PS.length c] w Q := by
  have hm := h.ok.le
  have Hhalf := Lib.hid (half_any h)
  obtain ⟨hf, hhf⟩ : ∃ hf, (D.last.length - 2) / 2 = hf := ⟨_, rfl⟩
  have hhf4 : hf ≤ 4096 := by omega
  rw [hhf] at Hhalf hcode hyes hbad
  have Href := Lib.hid (refused_lg h hf hhf4 a c PS hP hn)
  rw [h2, ← hcode] at Href
  have H := Lib.hid h
  have HP := Lib.hid hP
  have H2 := Lib.hid h2
  have Hcode := Lib.hid hcode
  have Hno := Lib.hid hno
  have Hyes := Lib.hid hyes
  have Hbad := Lib.hid hbad
  have Hst := Lib.hid hst
  have Hc := Lib.hid hc
  have Hhf := Lib.hid hhf
  clear h hP hcode hno hyes hbad hst hc hhf hm h2
  go_enter Try.func15, Try.ntmps15
  go_wp2_with fail
  refine Hhalf.out.mono ?_
  rintro e w' ⟨rfl, rfl⟩
  go_wp2_with fail
  refine Href.out.mono ?_
  rintro e w2 ⟨rfl, hA2⟩
  have HA2 := Lib.hid hA2
  clear hA2 Hhalf Href H
  by_cases h0 : code = 0
  · subst h0
    obtain ⟨rfl, hup, hl4, hfit⟩ := refM_ok Hcode.out.symm
    rw [hup] at HA2
    have hsd := HA2.out.sides
    have HAn := Lib.hid (show LgAt W0 w2 l d D side used recs false (rowSecs (.slice none 0 0) [] :: L) from HA2.out.nilSecs)
    have HA2 : Hid (LgAt W0 w2 l d D side used recs false L) := HA2
    have h6 := HA2.out.six
    have hklen := keepM_len D Hc.out hup HA2.out.ok.left0 hf (1 - side) 0 (secsV recs2) h6 Hhf.out.symm (by omega) (by rw [secsV_length]; omega)
    have H6 := Lib.hid h6
    have Hklen := Lib.hid hklen
    have Hup := Lib.hid hup
    have Hl4 := Lib.hid hl4
    have Hfit := Lib.hid hfit
    have hfit2 : (secsB recs2).length ≤ 4096 := by omega
    have Hfit2 := Lib.hid hfit2
    have hft := Lib.hid HA2.out.fit
    clear hklen hup hl4 hfit hfit2 h6 Hno HA2
    obtain ⟨i0, hi, hz0, hz1, hz2⟩ := info_parts info_s
    go_wp2_with fail
    go_loopw [6, 20] (fun s t wr => ∃ (k : Nat), k ≤ PS.length ∧ t = .int .i64 k ∧ LgAt W0 wr l d D side used recs false (rowSecs s (secsB (recs2.take k)) :: L)) (fun _ t _ => PS.length - (intOf t).toNat)
    case atStart => exact ⟨0, Nat.zero_le _, rfl, HAn.out⟩
    case round =>
      obtain ⟨k, hk, rfl, hA⟩ := hrel
      by_cases hlt : k < PS.length
      · have hlm : k < recs2.length := by rw [← H2.out]; simpa using hlt
        have hget : recs2[k] = PS[k].2 := by simp only [← H2.out]; rw [List.getElem_map]
        have hpt := HP.out wr (hA.own.tail)
        obtain ⟨g, o, x, c', rfl, hcl, hv, hx1, hx2⟩ := hpt.form k hlt
        have hby : By wr PS[k].1 PS[k].2 := by
          obtain ⟨_, _, _, _, hq⟩ := hpt k hlt
          exact hq
        rw [hv] at hby
        have hl4 : (PS[k].2).length ≤ 4096 := Hl4.out _ (by rw [← hget]; exact List.getElem_mem _)
        have hT := secsB_take recs2 k hlm
        have hTa : secsB (recs2.take (k + 1)) = secsB (recs2.take k) ++ layB PS[k].2 := by rw [List.take_succ_eq_append_getElem hlm, secsB_append, secsB_one, hget]
        have hle := secsB_take_le recs2 (k + 1)
        rw [hTa, List.length_append] at hle
        have HTa := Lib.hid hTa
        have HA := Lib.hid hA
        have Hby := Lib.hid hby
        have Hle := Lib.hid hle
        obtain ⟨lq, cq, rfl, _, _⟩ := Own.sized (h := hA.own)
        clear hget hpt hby hT hTa hle hA hlm hv
        generalize PS[k].2 = zs at *
        go_wp2_with fail
        refine (lay_bytes (.slice x zs.length c') zs wr Hby.out hl4).mono ?_
        rintro e w3 ⟨lv3, rfl, hO3⟩
        have HA3 := Lib.hid ((HA.out.join hO3).perm (List.Perm.swap _ _ _))
        obtain ⟨a3, c3, rfl, hc31, hc32⟩ := Own.sized (h := hO3)
        have hsrc := Own.src' (h := (HA.out.join hO3).own) (flat_one _)
        have Hsrc := Lib.hid hsrc
        obtain ⟨R2, h7, h8⟩ := HA3.out.first
        have H7 := Lib.hid h7
        have H8 := Lib.hid h8
        have h63 : (secsB (recs2.take k)).length + (layB zs).length ≤ maxLen := by have := Hle.out; have := Hfit2.out; unfold maxLen; omega
        have hby : ((secsB (recs2.take k)).length + (layB zs).length) * 64 ≤ 140737488355328 := by have := Hle.out; have := Hfit2.out; omega
        have H63 := Lib.hid h63
        have Hbyt := Lib.hid hby
        have hfl := Lib.hid (flat_len (layB zs) (layB_64 zs))
        have hzz : (Value.agg zSec.toArray).cells.size = 64 := rfl
        clear hO3 hsrc h7 h8 h63 hby HA3 HA Hby
        go_wp2_with (at_builtin; refine wpList_append_src rfl (.tmp 24) (.tmp 26) 50 rfl (.slice lq (secsB (recs2.take k)).length cq) (secsB (recs2.take k)).length (((secsB (recs2.take k)).map bs).flatten) (.slice a3 (layB zs).length c3) (layB zs).length (((layB zs).map bs).flatten) rfl rfl H7.out i0 (.agg zSec.toArray) 64 Try.underlying50 hi hz0 hz1 hz2 hzz (by decide) Hsrc.out hfl.out H63.out Hbyt.out ?_)
        intro v6 w6 hO6
        have hA7 := H8.out w6 (rowSecs v6 (secsB (recs2.take (k + 1)))) (by
          unfold rowSecs
          rw [HTa.out, List.length_append, List.map_append, List.flatten_append]
          exact hO6)
        have HA7 := Lib.hid (hA7.perm (List.Perm.refl _))
        clear hO6 hA7 H7 H8
        go_wp2_with fail
        exact ⟨⟨k + 1, by omega, by go_num, HA7.out.sub (.cons_cons _ (.cons _ (List.Sublist.refl _)))⟩, by simp [intOf]; omega⟩
      · obtain rfl : k = PS.length := by omega
        have htk : recs2.take PS.length = recs2 := List.take_of_length_le (by rw [← H2.out]; simp)
        rw [htk] at hA
        obtain ⟨c0, c1, c2, c4, cf, cl⟩ := hA.cells
        obtain ⟨a6, c6, rfl, hin⟩ := rowSecs_in hA.own (List.mem_cons_self ..)
        have hbr := built_root (((1 - side : Nat) : Int))
        have hsub : (1 : Int) - (side : Int) = ((1 - side : Nat) : Int) := by omega
        have hkp := keep_lg hA Hc.out Hup.out (1 - side) 0 hf a6 c6 (secsB recs2) hin (secsB_64 recs2) (by omega) Hhf.out.symm (by rw [Nat.zero_add]; exact Hfit.out) Hst.out
        rw [show (secsB recs2).map bs = secsV recs2 from rfl, Nat.zero_add] at hkp
        have Hkp := Lib.hid hkp
        obtain ⟨r, hr⟩ : ∃ r, keepM D hf (1 - side) 0 (secsV recs2) = r := ⟨_, rfl⟩
        rw [hr] at Hkp Hyes Hbad Hklen
        have hs1 : 1 - side ≤ 1 := by omega
        obtain ⟨s2, hs2⟩ : ∃ s2, 1 - side = s2 := ⟨_, rfl⟩
        rw [hs2] at Hkp Hyes hbr hsub hs1
        clear hA hin hkp htk hr hs2 cf c0 c2 c4 HAn
        go_wp2_with (refine wpList_build rfl 59 _ rfl [(0, .int .i64 (s2 : Int))] rfl _ hbr ?_)
        refine Hkp.out.mono ?_
        rintro e w3 ⟨rfl, lv, vs, M, hA3, hL3⟩
        have HA3 := Lib.hid hA3
        have HL3 := Lib.hid hL3
        clear hA3 hL3 Hkp c1 cl hbr hsub
        obtain ⟨D2, e2⟩ := r
        simp only at Hyes Hbad HA3 Hklen ⊢
        by_cases he : e2 = 0
        · subst he
          have hA4 : DkAt W0 w3 d D2 (rowLog l d s2 (secsB recs2).length lv false :: rowV lv vs :: (M ++ (rowSecs (.slice a6 (secsB recs2).length c6) (secsB recs2) :: L))) := HA3.out
          have hPw := HP.out w3 (hA4.own.of_mem ((((List.sublist_append_of_sublist_right (List.sublist_cons_self _ _)).cons _).cons _)))
          have hcp := copies_any a c PS w3 hPw hn (fun p hp => by
            have : p.2 ∈ PS.map (·.2) := List.mem_map_of_mem hp
            rw [H2.out] at this
            have := Hl4.out _ this
            omega)
          rw [H2.out] at hcp
          have Hcp := Lib.hid hcp
          have HA4 := Lib.hid hA4
          clear hA4 hPw hcp HA3 Hbad
          go_wp2_with fail
          refine Hcp.out.mono ?_
          rintro e w4 ⟨lv2, vs2, M2, rfl, hO4, hL4⟩
          have hA5 : DkAt W0 w4 d D2 (rowLog l d s2 (secsB recs2).length lv false :: ((rowV lv2 vs2 :: M2) ++ (rowV lv vs :: (M ++ (rowSecs (.slice a6 (secsB recs2).length c6) (secsB recs2) :: L))))) := (HA4.out.join hO4).perm List.perm_middle
          obtain ⟨b0, b1, b2, b3, b4, bf, bl⟩ := log_cells hA5
          have bf3 := bf 3
          obtain ⟨lq2, cq2, rfl, _, _⟩ := Own.sized (h := hO4)
          have hF : LgAt W0 (w4.setCell ⟨l, 3, none⟩ (.slice lq2 vs2.length cq2)) l d D2 s2 (secsB recs2).length recs2 false L := by
            refine ⟨by rw [Hklen.out]; exact H6.out, hs1, by rw [Hklen.out, Hhf.out]; exact Hfit.out, .slice lq2 vs2.length cq2, vs2, M2, (DkAt.onSet (h := hA5) 3 (.slice lq2 vs2.length cq2)).sub ?_, hL4⟩
            have hsub : (M2 ++ L).Sublist (M2 ++ (rowV lv vs :: (M ++ (rowSecs (.slice a6 (secsB recs2).length c6) (secsB recs2) :: L)))) := List.Sublist.append_left ((List.sublist_append_of_sublist_right (List.sublist_cons_self _ _)).cons _) M2
            exact (hsub.cons_cons _).cons_cons _
          have HF := Lib.hid hF
          clear hA5 bf b0 b1 b2 b4 hO4 hL4 hF Hcp HA4
          go_wp2_with fail
          exact Hyes.out _ (by trivial) (by trivial) HF.out
        · have he' : (e2 != 0) = true := by simpa using he
          have hA5 : DkAt W0 w3 d D2 (rowLog l d side used lv true :: rowV lv vs :: (M ++ (rowSecs (.slice a6 (secsB recs2).length c6) (secsB recs2) :: L))) := by
            have := HA3.out
            rw [keptRow, if_neg he] at this
            exact this
          have HF := Lib.hid (show LgAt W0 w3 l d D2 side used recs true L from ⟨by rw [Hklen.out]; exact H6.out, hsd, by rw [Hklen.out]; exact hft.out, lv, vs, M, hA5.sub ((List.Sublist.append_left (List.sublist_cons_self _ _) M).cons_cons _ |>.cons_cons _), HL3.out⟩)
          have HE := Lib.hid he
          clear hA5 he
          go_wp2_with fail
          exact Hbad.out _ (by trivial) HE.out HF.out
  · have h0' : (code != 0) = true := by simpa using h0
    go_wp2_with fail
    exact Hno.out _ h0 HA2.out
end Go.Proofs.Ytpebpchnkhbcfaa
