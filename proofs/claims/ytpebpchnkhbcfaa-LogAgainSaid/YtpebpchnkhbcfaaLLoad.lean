/- The records that a root counts are taken. -/
import Derived.Test.YtpebpchnkhbcfaaLRec
namespace Go.Proofs.Ytpebpchnkhbcfaa
open Go.RowKit
set_option linter.unusedVariables false
set_option linter.unusedSimpArgs false

theorem permJ (M : List Rw) (a b : Rw) (X : List Rw) : (M ++ (a :: b :: X)).Perm (b :: a :: (M ++ X)) :=
  List.perm_middle.trans ((List.perm_middle.cons a).trans (List.Perm.swap b a _))
theorem secsV_at (recs : List (List Int)) (k : Nat) (hk : k < recs.length) (j : Nat) (hj : j < roomM (recs[k]).length) : (secsV recs)[(secsB (recs.take k)).length + j]? = some (bs (cutB (recB recs[k]) j)) := by
  have e : recs = recs.take k ++ (recs[k] :: recs.drop (k + 1)) := by
    rw [← List.drop_eq_getElem_cons hk, List.take_append_drop]
  have e2 : secsV recs = secsV (recs.take k) ++ (secsV [recs[k]] ++ secsV (recs.drop (k + 1))) := by
    conv => lhs; rw [e]
    rw [secsV_append, show recs[k] :: recs.drop (k + 1) = [recs[k]] ++ recs.drop (k + 1) from rfl, secsV_append]
  rw [e2, List.getElem?_append_right (by rw [secsV_length]; omega), secsV_length, Nat.add_sub_cancel_left, List.getElem?_append_left (by rw [secsV_length, secsB_one, layB_length]; exact hj)]
  unfold secsV
  rw [secsB_one]
  simp [layB, hj]
theorem roomM_pos (n : Nat) : 1 ≤ roomM n := by unfold roomM; omega
theorem recs_le (recs : List (List Int)) : recs.length ≤ (secsB recs).length := by
  induction recs with
  | nil => simp
  | cons b r ih =>
    have h : secsB (b :: r) = layB b ++ secsB r := by simp [secsB]
    rw [h, List.length_append, layB_length, List.length_cons]
    have := roomM_pos b.length
    omega
theorem lo_end {W0 : Base} {w : World} {l d : Nat} {D : Dk} {side used n : Nat} {recs : List (List Int)} {v lv u : Value} {b : List Int} {vs : List Value} {M M2 L : List Rw} (hn : n = vs.length) (hA : DkAt W0 w d D (⟨30, 1, v, n + 1, vs ++ [u]⟩ :: rowLog l d side used lv false :: (M2 ++ (M ++ L)))) (hL : Lst M vs recs) (hp : Pc M2 u b)
    (h6 : 6 ≤ D.last.length) (hs : side ≤ 1) (hf : used ≤ (D.last.length - 2) / 2) : LgAt W0 (w.setCell ⟨l, 3, none⟩ v) l d D side used (recs ++ [b]) false L := by
  subst hn
  have h1 : DkAt W0 (w.setCell ⟨l, 3, none⟩ v) d D (rowLog l d side used v false :: ⟨30, 1, v, vs.length + 1, vs ++ [u]⟩ :: (M2 ++ (M ++ L))) := DkAt.onSet (h := hA.perm (perm2 _ _ _)) 3 v
  have e : (⟨30, 1, v, vs.length + 1, vs ++ [u]⟩ : Rw) = rowV v (vs ++ [u]) := by unfold rowV; rw [List.length_append]; rfl
  rw [e, ← List.append_assoc] at h1
  exact ⟨h6, hs, hf, v, vs ++ [u], M2 ++ M, h1, (hL.mono fun r hr => List.mem_append_right _ hr).push (hp.mono fun r hr => List.mem_append_left _ hr)⟩

set_option maxHeartbeats 3200000 in
set_option maxRecDepth 100000 in
theorem load_any {W0 : Base} {w : World} {l d : Nat} {D : Dk} {L : List Rw} {h side used : Nat} {recs : List (List Int)} (hA : DkAt W0 w d D (rowLog l d 0 0 (.slice none 0 0) false :: L)) (hup : D.down = false) (hH : Holds D.last h side used recs) :
    Calls Try.prog 23 #[.pointer (some ⟨l, 0, none⟩), .agg #[.int .i64 side, .int .i64 used]] w fun e w' => e = .returned (.int .i64 0) ∧ LgAt W0 w' l d D side used recs false L := by
  obtain ⟨i0, hi, hz0, hz1, hz2⟩ := info_parts info_v
  have hs := hH.sides
  have hfit := hH.fit
  have hm := hH.most
  have hh := hH.half
  have hh4 : h ≤ 4096 := by omega
  have h6 := hH.six
  have hu4 : used ≤ 4096 := by omega
  have hA1 : DkAt W0 (w.alloc (.cells #[.int .i64 (side : Int), .int .i64 (used : Int)] 59)) d D (rowLog l d 0 0 (.slice none 0 0) false :: rowRoot w.heap.size side used :: L) := by
    obtain ⟨R, h1, h2⟩ := hA.open
    exact (h2 _ (rowRoot w.heap.size side used :: rowLog l d 0 0 (.slice none 0 0) false :: L) ((h1.root side used).perm List.perm_middle.symm)).perm (List.Perm.swap _ _ _)
  have HA1 := Lib.hid hA1
  have H6 := Lib.hid h6
  have HH := Lib.hid hH
  have Hup := Lib.hid hup
  have Hh := Lib.hid hh
  have Hfit := Lib.hid (show used ≤ (D.last.length - 2) / 2 by rw [← hh]; exact hfit)
  obtain ⟨R1, hR1, hR2⟩ := hA1.open
  obtain ⟨b0, b1⟩ := root_cells hR1 (g := w.heap.size) (a := side) (b := used) (by simp)
  have hhalf := fun q : Nat => half_dk (hA1.drewN (n := q)) h6
  rw [← hh] at hhalf
  have Hhalf := Lib.hid hhalf
  have hgt : decide ((used : Int) > (h : Int)) = false := by simp; omega
  have hgt2 : decide ((h : Int) < (used : Int)) = false := by simp; omega
  clear hA hA1 hR1 hR2 R1 hhalf hup hH hh h6
  go_enter Try.func23, Try.ntmps23
  go_wp2_with fail
  generalize w.alloc (.cells #[.int .i64 (side : Int), .int .i64 (used : Int)] 59) = w1 at *
  generalize w.heap.size = H at *
  go_quiet ((go_at_call 30; exact Calls.quiet_of_same ((Hhalf.out _).mono fun e w' ⟨h1, h2⟩ => ⟨h1, h2.symm⟩)))
  have HA2 := Lib.hid (HA1.out.drewN (n := nq))
  clear HA1 Hhalf b0 b1 hgt hgt2
  generalize w1.drewN nq = w2 at *
  obtain ⟨c0, c1, c2, c3, c4, cf, cl⟩ := log_cells HA2.out
  have hown := HA2.out.own
  obtain ⟨b0, b1⟩ := root_cells hown (g := H) (a := side) (b := used) (by simp)
  have hr2 : w2.rangeAt H 0 [Value.int .i64 (side : Int), .int .i64 (used : Int)] := by
    have := Own.range (h := hown.only (show rowRoot H side used ∈ _ by simp)) 0 2
    exact this
  have cf1 := cf 1
  have cf2 := cf 2
  have hS : DkAt W0 ((w2.setCell ⟨l, 1, none⟩ (.int .i64 (side : Int))).setCell ⟨l, 2, none⟩ (.int .i64 (used : Int))) d D (rowLog l d side used (.slice none 0 0) false :: rowRoot H side used :: L) := DkAt.onSet (h := DkAt.onSet (h := HA2.out) 1 (.int .i64 (side : Int))) 2 (.int .i64 (used : Int))
  have hS2 : LgAt W0 ((w2.setCell ⟨l, 1, none⟩ (.int .i64 (side : Int))).setCell ⟨l, 2, none⟩ (.int .i64 (used : Int))) l d D side used [] false (rowRoot H side used :: L) := by
    refine ⟨H6.out, hs, Hfit.out, .slice none 0 0, [], [], ?_, Lst.nil _⟩
    obtain ⟨R, h1, h2⟩ := hS.open
    refine (h2 _ (rowV (.slice none 0 0) [] :: (rowLog l d side used (.slice none 0 0) false :: rowRoot H side used :: L)) ?_).perm (List.Perm.swap _ _ _)
    exact ((h1.nil 30 1) : Own W0 _ (rowV (.slice none 0 0) [] :: _)).perm List.perm_middle.symm
  have HS := Lib.hid hS2
  have hirt : (Try.prog.info? 59).map (·.size) = some [Value.int .i64 (side : Int), .int .i64 (used : Int)].length := info_root
  clear hS hS2 hown c0 c3 c4 cf
  go_wp2_with (refine wpList_load_mid rfl 59 (.tmp 3) rfl H 0 rfl [.int .i64 (side : Int), .int .i64 (used : Int)] _ hr2 Try.underlying59 rfl hirt ?_)
  clear HA2 b0 b1 hr2 c1 c2 cf1 cf2 cl
  go_loopw [5] (fun t wr => ∃ (k : Nat), k ≤ recs.length ∧ t = .int .i64 ((secsB (recs.take k)).length : Int) ∧ LgAt W0 wr l d D side used (recs.take k) false (rowRoot H side used :: L)) (fun t _ => used - (intOf t).toNat)
  case atStart => exact ⟨0, Nat.zero_le _, by simp [secsB], by simpa using HS.out⟩
  case round =>
    obtain ⟨k, hk, rfl, hA⟩ := hrel
    obtain ⟨b0, b1⟩ := root_cells hA.own (g := H) (a := side) (b := used) (List.mem_cons_self ..)
    by_cases hlt : k < recs.length
    · obtain ⟨bby, bl4⟩ := HH.out.all _ (List.getElem_mem hlt)
      have huse := HH.out.uses
      have hT := secsB_take recs k hlt
      have hle := secsB_take_le recs (k + 1)
      rw [hT, ← huse] at hle
      have hpos := roomM_pos (recs[k]).length
      have hTk : recs.take (k + 1) = recs.take k ++ [recs[k]] := List.take_succ_eq_append_getElem hlt
      have hg : ∀ j : Nat, j < roomM (recs[k]).length → D.last[2 + side * ((D.last.length - 2) / 2) + ((secsB (recs.take k)).length + j)]? = some (bs (cutB (recB recs[k]) j)) := by
        intro j hj
        rw [← secsV_at recs k hlt j hj, ← HH.out.secs _ (by omega), ← Hh.out]
      obtain ⟨lv, vs, M, h1, h2⟩ := hA.rest
      have hvl : vs.length ≤ 4096 := by rw [h2.1, List.length_take]; have := recs_le recs; rw [← huse] at this; omega
      have hrec := record_any h1 (List.mem_cons_self ..) H6.out Hup.out hs (secsB (recs.take k)).length recs[k] bby bl4 hle hu4 hg
      have Hrec := Lib.hid hrec
      have H1 := Lib.hid h1
      have H2 := Lib.hid h2
      have HT := Lib.hid hT
      have HTk := Lib.hid hTk
      have Hvl := Lib.hid hvl
      generalize recs[k] = b at *
      obtain ⟨x, hx⟩ : ∃ x, (secsB (recs.take k)).length = x := ⟨_, rfl⟩
      rw [hx] at Hrec HT hle ⊢
      clear hA hrec h1 h2 hT hTk hvl huse hg hx
      have hxu : x < used := by omega
      have hbn : b.length ≤ 140737488355328 := by omega
      go_wp2_with fail
      refine Hrec.out.mono ?_
      rintro e w3 ⟨v, M2, rfl, hO3, hp3⟩
      have hA3 : DkAt W0 w3 d D (rowV lv vs :: rowLog l d side used lv false :: (M2 ++ (M ++ (rowRoot H side used :: L)))) := (H1.out.join hO3).perm (permJ _ _ _ _)
      obtain ⟨a3, c3', hv3, _, _⟩ := id hp3
      subst hv3
      obtain ⟨_, _, _, k3, _, kf, kl⟩ := log_cells (hA3.perm (perm2 _ _ _))
      obtain ⟨lq, cq, rfl, _, _⟩ := Own.sized (h := hA3.own)
      obtain ⟨R2, h7, h8⟩ := hA3.first
      have H7 := Lib.hid (h7.alloc (.cells #[.slice a3 b.length c3'] 30))
      have H8 := Lib.hid h8
      have HP3 := Lib.hid hp3
      have hsrc := src_box w3 30 (.slice a3 b.length c3') rfl
      have Hsrc := Lib.hid hsrc
      have hb1 : vs.length + 1 ≤ maxLen := by have := Hvl.out; unfold maxLen; omega
      have hb2 : (vs.length + 1) * 24 ≤ 140737488355328 := by have := Hvl.out; omega
      have Hb1 := Lib.hid hb1
      have Hb2 := Lib.hid hb2
      clear hO3 hp3 hA3 h7 h8 hsrc hb1 hb2 kf b0 b1
      go_wp2_with (at_builtin; refine wpList_append_src rfl (.tmp 33) (.tmp 35) 35 rfl (.slice lq vs.length cq) vs.length vs (.slice (some ⟨w3.heap.size, 0, none⟩) 1 1) 1 [.slice a3 b.length c3'] rfl rfl H7.out i0 (.slice none 0 0) 24 Try.underlying35 hi hz0 hz1 hz2 rfl (by decide) Hsrc.out (by simp) Hb1.out Hb2.out ?_)
      intro v6 w6 hO6
      obtain ⟨a6, c6, rfl, _, _⟩ := Own.sized (h := hO6)
      have hA6 := H8.out w6 _ _ hO6
      obtain ⟨_, _, _, z3, _, zf, zl⟩ := log_cells (hA6.perm (perm2 _ _ _))
      have zf3 := zf 3
      have hE := lo_end rfl hA6 H2.out HP3.out H6.out hs Hfit.out
      rw [← HTk.out] at hE
      have HE := Lib.hid hE
      clear hO6 hA6 zf hE H7 H8 Hsrc k3 kl
      have hrb : roomM b.length ≤ 66 := by unfold roomM; omega
      go_wp2_with (go_at_call 16; refine (room_any b.length _ hbn).mono ?_; rintro e w' ⟨rfl, rfl⟩)
      exact ⟨⟨k + 1, by omega, by rw [HT.out]; go_num, HE.out⟩, by simp [intOf]; omega⟩
    · obtain rfl : k = recs.length := by omega
      rw [List.take_length] at hA ⊢
      have hu := HH.out.uses
      rw [← hu]
      have HA := Lib.hid (hA.sub (List.sublist_cons_self _ _))
      clear hA hu
      go_wp2_with fail
      go_ret
      exact ⟨rfl, HA.out⟩
end Go.Proofs.Ytpebpchnkhbcfaa
