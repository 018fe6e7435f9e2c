/- A record is kept behind all others. -/
import Derived.Test.YtpebpchnkhbcfaaLRef
namespace Go.Proofs.Ytpebpchnkhbcfaa
open Go.RowKit
set_option linter.unusedVariables false
set_option linter.unusedSimpArgs false

/-- A list of one, in a row of the call's own. -/
theorem one_parts {W0 : Base} {w : World} {g cp : Nat} {v : Value} {b : List Int} {L : List Rw} (hb : By w v b) (h : Own W0 w (rowV (.slice (some ⟨g, 0, none⟩) 1 cp) [v] :: L)) : Parts w (some ⟨g, 0, none⟩) [(v, b)] := by
  intro i hi
  obtain rfl : i = 0 := by simpa using hi
  have h' : Own W0 w (⟨30, 1, .slice (some ⟨g, 0, none⟩) 1 cp, 1, [v]⟩ :: L) := h
  exact ⟨g, 0, rfl, Own.cell (h := h') 0 (by decide), hb⟩
theorem LgAt.box {W0 : Base} {w : World} {l d : Nat} {D : Dk} {side used : Nat} {recs : List (List Int)} {dead : Bool} {L : List Rw} (h : LgAt W0 w l d D side used recs dead L) (v : Value) : LgAt W0 (w.alloc (.cells #[v] 30)) l d D side used recs dead (rowV (.slice (some ⟨w.heap.size, 0, none⟩) 1 1) [v] :: L) :=
  h.join ((Own.start w).made 30 1 #[v] 1 rfl (by unfold maxLen; decide))

theorem refM_ok {dead down : Bool} {room : Nat} {recs : List (List Int)} (h : refM dead down room recs = 0) : dead = false ∧ down = false ∧ (∀ b ∈ recs, b.length ≤ 4096) ∧ (secsB recs).length ≤ room := by
  unfold refM at h
  split at h
  · cases h
  · rename_i h1
    split at h
    · cases h
    · rename_i h2
      split at h
      · cases h
      · rename_i h3
        refine ⟨?_, ?_, fun b hb => ?_, by omega⟩
        · cases dead
          · rfl
          · exact absurd rfl h1
        · cases down
          · rfl
          · exact absurd (by cases dead <;> rfl) h1
        · rcases Nat.lt_or_ge 4096 b.length with h4 | h4
          · exact absurd ⟨b, hb, h4⟩ h2
          · exact h4
theorem keepM_len (D : Dk) (hc : Clean D) (hu : D.down = false) (h0 : 0 ≤ D.left) (h side used : Nat) (ws : List (List Value)) (h6 : 6 ≤ D.last.length) (hh : h = (D.last.length - 2) / 2) (hs : side ≤ 1) (hf : used + ws.length ≤ h) : (keepM D h side used ws).1.last.length = D.last.length := by
  have hb := half_le D.last.length h6
  rw [← hh] at hb
  have hsh : side * h ≤ h := by
    rcases Nat.le_one_iff_eq_zero_or_eq_one.1 hs with rfl | rfl <;> omega
  obtain ⟨hW, _, _, hlf⟩ := writes_clean D hc hu h0 (2 + side * h + used) ws (by omega)
  unfold keepM
  rcases hW.ends with ⟨e1, u1, l1⟩ | ⟨e1, u1, f1, l1⟩
  · rw [e1, if_neg (by decide)]
    obtain ⟨hW2, _, _, _⟩ := writes_clean _ hW.clean u1 hlf 0 [bs (rootB side (used + ws.length))] (by rw [hW.len]; simp; omega)
    exact hW2.len.trans hW.len
  · rw [e1, if_pos (by decide)]
    exact hW.len
/-- Sectors of the call's own, as a list that is written. -/
theorem rowSecs_in {W0 : Base} {w : World} {L : List Rw} {lv : Value} {ss : List (List Int)} (h : Own W0 w L) (hm : rowSecs lv ss ∈ L) : ∃ a c, lv = .slice a ss.length c ∧ SecsIn L a (ss.map bs) := by
  have h1 := h.only hm
  obtain ⟨a, c, hv, _, _⟩ := Own.sized (h := h1)
  refine ⟨a, c, hv, fun hp => ?_⟩
  rw [List.length_map] at hp
  obtain ⟨g, cap, hf, _, _, _, _⟩ := Own.form (h := h1) hp
  rw [hv] at hf
  injection hf with e1 e2 e3
  subst e1
  refine ⟨g, c, rfl, ?_⟩
  rw [List.length_map]
  rw [hv] at hm
  exact hm

theorem perm3 (a b c : Rw) (L : List Rw) : ([a] ++ (b :: c :: L)).Perm (c :: a :: b :: L) := ((List.Perm.swap c b L).cons a).trans (List.Perm.swap c a (b :: L))
theorem perm2 (a b : Rw) (L : List Rw) : (a :: b :: L).Perm (b :: a :: L) := List.Perm.swap b a L
theorem src_box (w : World) (T : TypeId) (v : Value) (h : v.oneCell' = true) : Src (w.alloc (.cells #[v] T)) (.slice (some ⟨w.heap.size, 0, none⟩) 1 1) 1 [v] := by
  refine .inr ⟨_, _, rfl, fun j u hj => ?_, fun u hu => by rw [List.mem_singleton.1 hu]; exact h⟩
  rw [Addr.add_mid, Nat.zero_add, World.cell?_alloc_new]
  simpa using hj
/-- The list with one record more is the log's. -/
theorem app_end {W0 : Base} {w : World} {l d : Nat} {D : Dk} {side used n : Nat} {recs : List (List Int)} {v lv u : Value} {b : List Int} {vs : List Value} {M R L : List Rw} (hn : n = vs.length) (hA : DkAt W0 w d D (⟨30, 1, v, n + 1, vs ++ [u]⟩ :: rowU u b :: rowLog l d side used lv false :: (M ++ (R ++ L)))) (hL : Lst M vs recs) (hz : Byts b)
    (h6 : 6 ≤ D.last.length) (hs : side ≤ 1) (hf : used ≤ (D.last.length - 2) / 2) : LgAt W0 (w.setCell ⟨l, 3, none⟩ v) l d D side used (recs ++ [b]) false L := by
  subst hn
  have h1 : DkAt W0 (w.setCell ⟨l, 3, none⟩ v) d D (rowLog l d side used v false :: ⟨30, 1, v, vs.length + 1, vs ++ [u]⟩ :: rowU u b :: (M ++ (R ++ L))) := DkAt.onSet (h := hA.perm (perm3 _ _ _ _)) 3 v
  have e : (⟨30, 1, v, vs.length + 1, vs ++ [u]⟩ : Rw) = rowV v (vs ++ [u]) := by unfold rowV; rw [List.length_append]; rfl
  rw [e] at h1
  have hp : Pc [rowU u b] u b := Pc.all (hA.own.only (List.mem_cons_of_mem _ (List.mem_cons_self ..))) hz
  refine ⟨h6, hs, hf, v, vs ++ [u], rowU u b :: M, h1.sub ?_, ?_⟩
  · exact ((((List.Sublist.append_left (List.sublist_append_right R L) M).cons_cons _).cons_cons _).cons_cons _)
  · exact (hL.mono fun r hr => List.mem_cons_of_mem _ hr).push (hp.mono fun r hr => by rw [List.mem_singleton.1 hr]; exact List.mem_cons_self ..)
/-! append of lists of records, as a rule for a region that draws its order. -/
def okApp (w : World) (ty : TypeId) (x y : Value) : Prop := ∃ v w', (Builtin.append_ #[35, 35] ty #[x, y]).run Try.prog w = .ok v w'
noncomputable def appV (w : World) (ty : TypeId) (x y : Value) : Value := match (Builtin.append_ #[35, 35] ty #[x, y]).run Try.prog w with
  | .ok v _ => v
  | _ => undef
noncomputable def appW (w : World) (ty : TypeId) (x y : Value) : World := match (Builtin.append_ #[35, 35] ty #[x, y]).run Try.prog w with
  | .ok _ w' => w'
  | _ => w
theorem wp_app {dd : Option Tmp} {x y : Operand} {ty : TypeId} {ps : String} {af : Array Edge} {gd : Option (Nat × Bool)} {a : Act} {w : World} {K : Act → World → Prop} {Q : Exit → Act → World → Prop} (h : okApp w ty (a.eval x) (a.eval y)) :
    Oper.wp Try.prog ⟨dd, .call { callee := .builtin .append, args := #[x, y], argTypes := #[35, 35] }, ty, ps, af, gd⟩ a w K Q = K (a.put dd (appV w ty (a.eval x) (a.eval y))) (appW w ty (a.eval x) (a.eval y)) := by
  obtain ⟨v, w', hr⟩ := h
  unfold Oper.wp appV appW
  simp [execOp, resolve, invoke, builtin, hr, Result.andThen]
  exact Iff.rfl
attribute [local go_sem ↓] wp_app Go.wp_at_zero Go.wp_at_succ
theorem keep_lg {W0 : Base} {w : World} {l d : Nat} {D : Dk} {s0 u0 : Nat} {recs : List (List Int)} {dead : Bool} {L : List Rw} (hA : LgAt W0 w l d D s0 u0 recs dead L) (hc : Clean D) (hup : D.down = false) (side used h : Nat) (a : Option Addr) (c : Nat) (ss : List (List Int))
    (hL : SecsIn L a (ss.map bs)) (hsec : ∀ s ∈ ss, s.length = 64) (hs : side ≤ 1) (hh : h = (D.last.length - 2) / 2) (hf : used + ss.length ≤ h) (hst : D.steps ≤ 4611686018427000000) :
    Calls Try.prog 25 #[.pointer (some ⟨l, 0, none⟩), .agg #[.int .i64 side, .int .i64 used], .slice a ss.length c] w fun e w' => e = .returned (.int .i64 (keepM D h side used (ss.map bs)).2) ∧ ∃ lv vs M, DkAt W0 w' d (keepM D h side used (ss.map bs)).1 (keptRow l d s0 u0 lv dead side (used + ss.length) (keepM D h side used (ss.map bs)).2 :: rowV lv vs :: (M ++ L)) ∧ Lst M vs recs := by
  obtain ⟨lv, vs, M, h1, h2⟩ := hA.rest
  have := keep_dk h1 hc hup hA.six side used h a c (ss.map bs) (hL.mono fun r hr => List.mem_cons_of_mem _ (List.mem_append_right _ hr)) (fun s hs => by
    obtain ⟨x, hx, rfl⟩ := List.mem_map.1 hs
    exact isSec_bs x (hsec x hx)) hs hh (by rw [List.length_map]; exact hf) hst
  rw [List.length_map] at this
  exact this.mono fun e w' ⟨h3, h4⟩ => ⟨h3, lv, vs, M, h4, h2⟩
theorem layB_64 (b : List Int) : ∀ s ∈ layB b, s.length = 64 := by
  intro s hs
  obtain ⟨i, _, rfl⟩ := List.mem_map.1 hs
  exact cutB_length _ _
theorem secsB_64 (recs : List (List Int)) : ∀ s ∈ secsB recs, s.length = 64 := by
  intro s hs
  obtain ⟨b, _, hs⟩ := List.mem_flatMap.1 hs
  exact layB_64 b s hs

set_option maxHeartbeats 3200000 in
set_option maxRecDepth 100000 in
theorem append_lg {W0 : Base} {w : World} {l d : Nat} {D : Dk} {side used : Nat} {recs : List (List Int)} {dead : Bool} {L : List Rw} (h : LgAt W0 w l d D side used recs dead L) (v : Value) (b : List Int) (hb : ∀ w', Own W0 w' L → By w' v b) (hR : recs.length ≤ 1000000)
    (hc : Clean D) (hst : D.steps ≤ 4611686018427000000) (code : Int) (hcode : code = refM dead D.down ((D.last.length - 2) / 2 - used) [b])
    (Q : Ending → World → Prop) (hno : ∀ w', code ≠ 0 → LgAt W0 w' l d D side used recs (dead || D.down) L → Q (.returned (.int .i64 code)) w')
    (hyes : ∀ w', code = 0 → (keepM D ((D.last.length - 2) / 2) side used (secsV [b])).2 = 0 → LgAt W0 w' l d (keepM D ((D.last.length - 2) / 2) side used (secsV [b])).1 side (used + roomM b.length) (recs ++ [b]) false L → Q (.returned (.int .i64 0)) w')
    (hbad : ∀ w', code = 0 → (keepM D ((D.last.length - 2) / 2) side used (secsV [b])).2 ≠ 0 → LgAt W0 w' l d (keepM D ((D.last.length - 2) / 2) side used (secsV [b])).1 side used recs true L → Q (.returned (.int .i64 (keepM D ((D.last.length - 2) / 2) side used (secsV [b])).2)) w') :
    Calls Try.prog 10 #[.pointer (some ⟨l, 0, none⟩), v] w Q := by
  have hby := hb w h.own
  have hbl := hby.len
  have hbz := hby.2.1
  have hm := h.ok.le
  obtain ⟨a0, c0, rfl, hc1, hc2⟩ := hby.2.2
  have Hleft := Lib.hid (left_any h)
  obtain ⟨room, hroom⟩ : ∃ room, (D.last.length - 2) / 2 - used = room := ⟨_, rfl⟩
  have hroom4 : room ≤ 4096 := by omega
  rw [hroom] at Hleft hcode
  have H := Lib.hid h
  have Hb := Lib.hid hb
  have Hcode := Lib.hid hcode
  have Hno := Lib.hid hno
  have Hyes := Lib.hid hyes
  have Hbad := Lib.hid hbad
  have Hst := Lib.hid hst
  have Hc := Lib.hid hc
  have Hbz := Lib.hid hbz
  have HR := Lib.hid hR
  have Hroom := Lib.hid hroom
  clear h hb hcode hno hyes hbad hst hc hbz hR hroom hby hm
  go_enter Try.func10, Try.ntmps10
  go_upto_region 1 with (fail)
  go_cut [5] (fun s wc => s = .int .i64 code ∧ LgAt W0 wc l d D side used recs (dead || D.down) L)
  case first =>
    go_wp2_with fail
    refine Hleft.out.mono ?_
    rintro e w' ⟨rfl, n, rfl⟩
    go_wp2_with fail
    refine (refused_lg ((H.out.drewN (n := n)).box (.slice a0 b.length c0)) room hroom4 (some ⟨_, 0, none⟩) 1 [(.slice a0 b.length c0, b)] (fun w' hO => one_parts (Hb.out w' hO.tail) hO) (by simp)).mono ?_
    rintro e w2 ⟨rfl, hA2⟩
    have HA2 := Lib.hid (hA2.sub (List.sublist_cons_self _ _))
    clear hA2
    rw [show refM dead D.down room ([(Value.slice a0 b.length c0, b)].map (·.2)) = code from Hcode.out.symm]
    go_wp2_with fail
    go_meet
    exact ⟨rfl, HA2.out⟩
  case rest =>
    obtain ⟨rfl, hA⟩ := hcut
    have HA := Lib.hid hA
    clear hA
    by_cases h0 : code = 0
    · subst h0
      obtain ⟨rfl, hup, hl4, hfit⟩ := refM_ok Hcode.out.symm
      have hl4 := hl4 b (List.mem_singleton.2 rfl)
      rw [secsB_one, layB_length] at hfit
      rw [hup] at HA
      have HA : Hid (LgAt W0 wc l d D side used recs false L) := HA
      have h6 := HA.out.six
      have hsd := HA.out.sides
      have hft := HA.out.fit
      obtain ⟨h, hh⟩ : ∃ h, h = (D.last.length - 2) / 2 := ⟨_, rfl⟩
      rw [← hh] at Hyes Hbad Hroom hft
      have hln : (secsV [b]).length = roomM b.length := by rw [secsV_length, secsB_one, layB_length]
      have hfit2 : used + (secsV [b]).length ≤ h := by rw [hln]; have := Hroom.out; omega
      have hklen := keepM_len D Hc.out hup HA.out.ok.left0 h side used (secsV [b]) h6 hh hsd hfit2
      obtain ⟨c0', c1, c2, c4, cf, cl⟩ := HA.out.cells
      have Hln := Lib.hid hln
      have Hfit2 := Lib.hid hfit2
      have Hklen := Lib.hid hklen
      have Hh := Lib.hid hh
      have Hup := Lib.hid hup
      have Hl4 := Lib.hid hl4
      obtain ⟨r, hr⟩ : ∃ r, keepM D h side used (secsV [b]) = r := ⟨_, rfl⟩
      rw [hr] at Hyes Hbad Hklen
      have Hr := Lib.hid hr
      have hby := Hb.out wc HA.out.own
      have Hby := Lib.hid hby
      clear hln hfit2 hklen hh hup hl4 hfit hr hft h6 Hleft H Hno hby cf c0' c4
      go_upto_region 4 with (fail)
      go_cut [6] (fun s wc => ∃ lv vs M R, s = .int .i64 r.2 ∧ DkAt W0 wc d r.1 (keptRow l d side used lv false side (used + roomM b.length) r.2 :: rowV lv vs :: (M ++ (R ++ L))) ∧ Lst M vs recs)
      case first =>
        go_region_with (first
          | (go_at_call 27; refine (lay_bytes (.slice a0 b.length c0) b _ ?_ Hl4.out).mono ?_; (first | exact Hby.out | exact Hby.out.drew); rintro e w3 ⟨lv3, rfl, hO3⟩; (first | have HA3 := Lib.hid (HA.out.join hO3) | have HA3 := Lib.hid (HA.out.drew.join hO3)); obtain ⟨g0, g1, g2, g4, gf, gl⟩ := HA3.out.cells; obtain ⟨a3, c3, rfl, hin⟩ := rowSecs_in HA3.out.own (List.mem_append_left _ (List.mem_cons_self ..)); have Hin := Lib.hid hin; clear hO3 hin gf g4 g0)
          | (go_at_call 25; refine (keep_lg HA3.out Hc.out Hup.out side used h a3 c3 (layB b) Hin.out (layB_64 b) hsd Hh.out (by have := Hfit2.out; rw [Hln.out] at this; rw [layB_length]; exact this) Hst.out).mono ?_; rintro e w4 ⟨rfl, lv, vs, M, hA4, hL4⟩; rw [show keepM D h side used ((layB b).map bs) = r from (by rw [← Hr.out, secsV, secsB_one])] at hA4 ⊢; rw [layB_length] at hA4; have HA4 := Lib.hid hA4; have HL4 := Lib.hid hL4; clear hA4 hL4))
        all_goals (go_wp2_with fail; go_meet)
        all_goals exact ⟨lv, vs, M, [_], rfl, HA4.out, HL4.out⟩
      case rest =>
        obtain ⟨lv, vs, M, R, rfl, hA4, hL4⟩ := hcut
        have HA4 := Lib.hid hA4
        have HL4 := Lib.hid hL4
        clear hA4 hL4 c1 c2 cl Hby
        obtain ⟨D2, e2⟩ := r
        simp only at Hyes Hbad HA4 Hklen ⊢
        by_cases he : e2 = 0
        · subst he
          have hA5 : DkAt W0 wc d D2 (rowLog l d side (used + roomM b.length) lv false :: rowV lv vs :: (M ++ (R ++ L))) := HA4.out
          obtain ⟨i0, hi, hz0, hz1, hz2⟩ := info_parts info_v
          have HA5 := Lib.hid hA5
          have Hby5 := Lib.hid (Hb.out wc (hA5.own.of_mem (((List.sublist_append_of_sublist_right (List.sublist_append_right R L)).cons _).cons _)))
          obtain ⟨b0, b1, b2, b3, b4, bf, bl⟩ := log_cells hA5
          have hvl : vs.length ≤ 1000000 := by rw [HL4.out.1]; exact HR.out
          have Hvl := Lib.hid hvl
          have hbl9 : b.length ≤ 140737488355328 := by have := Hl4.out; omega
          clear hA5 HA4 bf b0 b1 b2 b4 hvl Hbad
          obtain ⟨lq, cq, hlq, _, _⟩ := Own.sized (h := (HA5.out.own.tail : Own W0 wc (rowV lv vs :: (M ++ (R ++ L)))))
          subst hlq
          go_upto_region 7 with (fail)
          go_region_with (first
            | (go_at_call 28; refine (clone_any (.slice a0 b.length c0) b _ (by first | exact Hby5.out | exact Hby5.out.drew) hbl9).mono ?_; rintro e w5 ⟨v5, rfl, hO5⟩; obtain ⟨a5, k5, c5, rfl⟩ := hO5.form3; (first | have HA6 := Lib.hid (HA5.out.join hO5) | have HA6 := Lib.hid (HA5.out.drew.join hO5)); have HP6 := Lib.hid (Pc.all (HA6.out.own : Own W0 w5 (rowU (.slice a5 k5 c5) b :: _)) Hbz.out); obtain ⟨R2, h7, h8⟩ := (HA6.out.perm (perm3 _ _ _ _)).first; have q3 : w5.cell? ⟨l, 3, none⟩ = some (.slice lq vs.length cq) := (log_cells (HA6.out.perm (List.Perm.swap _ _ _))).2.2.2.1; have ql : l < w5.heap.size := (log_cells (HA6.out.perm (List.Perm.swap _ _ _))).2.2.2.2.2.2; obtain ⟨v6, w6, hr6, hO6⟩ := run_append_src (P := Try.prog) (t := 35) (ty := 35) (h7.alloc (.cells #[.slice a5 k5 c5] 30)) i0 (.slice none 0 0) 24 Try.underlying35 hi hz0 hz1 hz2 rfl (by decide) (.slice (some ⟨w5.heap.size, 0, none⟩) 1 1) 1 (src_box w5 30 (.slice a5 k5 c5) rfl) (by simp) (by have := Hvl.out; unfold maxLen; omega) (by have := Hvl.out; omega); obtain ⟨a6, c6, rfl, _, _⟩ := Own.sized (h := hO6); have qk : okApp (w5.alloc (.cells #[.slice a5 k5 c5] 30)) 35 (.slice lq vs.length cq) (.slice (some ⟨w5.heap.size, 0, none⟩) 1 1) := ⟨_, _, hr6⟩; have qv : appV (w5.alloc (.cells #[.slice a5 k5 c5] 30)) 35 (.slice lq vs.length cq) (.slice (some ⟨w5.heap.size, 0, none⟩) 1 1) = .slice a6 (vs.length + 1) c6 := (by unfold appV; rw [hr6]); have qw : appW (w5.alloc (.cells #[.slice a5 k5 c5] 30)) 35 (.slice lq vs.length cq) (.slice (some ⟨w5.heap.size, 0, none⟩) 1 1) = w6 := (by unfold appW; rw [hr6]); have HA7 := Lib.hid (h8 w6 _ _ hO6); obtain ⟨_, _, _, z3, _, zf, zl⟩ := log_cells (HA7.out.perm (perm3 _ _ _ _)); have zf3 := zf 3; clear hO5 h7 h8 hO6 zf hr6))
          all_goals have HF := Lib.hid (app_end rfl HA7.out HL4.out Hbz.out (by rw [Hklen.out]; exact HA.out.six) hsd (by rw [Hklen.out, ← Hh.out]; have := Hfit2.out; rw [Hln.out] at this; exact this))
          all_goals clear HA7 qk qv qw q3 ql z3 zf3 zl
          all_goals go_wp2_with fail
          all_goals exact Hyes.out _ (by trivial) (by trivial) HF.out
        · have he' : (e2 != 0) = true := by simpa using he
          have hA5 : DkAt W0 wc d D2 (rowLog l d side used lv true :: rowV lv vs :: (M ++ (R ++ L))) := by
            have := HA4.out
            rw [keptRow, if_neg he] at this
            exact this
          have HF := Lib.hid (show LgAt W0 wc l d D2 side used recs true L from ⟨by rw [Hklen.out]; exact HA.out.six, hsd, by rw [Hklen.out]; exact HA.out.fit, lv, vs, M, hA5.sub ((List.Sublist.append_left (List.sublist_append_right R L) M).cons_cons _ |>.cons_cons _), HL4.out⟩)
          have HE := Lib.hid he
          clear hA5 he
          go_wp2_with fail
          exact Hbad.out _ (by trivial) HE.out HF.out
    · have h0' : (code != 0) = true := by simpa using h0
      go_wp2_with fail
      exact Hno.out _ h0 HA.out
end Go.Proofs.Ytpebpchnkhbcfaa
