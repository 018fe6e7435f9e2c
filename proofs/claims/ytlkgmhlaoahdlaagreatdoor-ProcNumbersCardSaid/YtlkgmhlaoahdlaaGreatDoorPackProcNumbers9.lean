/- Texts one behind the other, each in a section of its own: what calls make of memory, step by step. -/
import Derived.Test.YtlkgmhlaoahdlaaGreatDoorPackProcNumbers8
import Derived.Deep.Slices
import Derived.Lib.SmallJoins
import Derived.WideShapes
import Derived.DeepKeys

/- A record is kept behind all others. -/
section
namespace Go.Proofs.YtlkgmhlaoahdlaaGreatDoor
open Go.RowKit
set_option linter.unusedVariables false
set_option linter.unusedSimpArgs false

/-- A list of one, in a row of the call's own. -/
theorem one_parts {W0 : Base} {w : World} {g cp : Nat} {v : Value} {b : List Int} {L : List Rw} (hb : By w v b) (h : Own W0 w (rowV (.slice (some ⟨g, 0, none⟩) 1 cp) [v] :: L)) : Parts w (some ⟨g, 0, none⟩) [(v, b)] := by
  intro i hi
  obtain rfl : i = 0 := by simpa using hi
  have h' : Own W0 w (⟨61, 1, .slice (some ⟨g, 0, none⟩) 1 cp, 1, [v]⟩ :: L) := h
  exact ⟨g, 0, rfl, Own.cell (h := h') 0 (by decide), hb⟩
theorem LgAt.box {W0 : Base} {w : World} {l d : Nat} {D : Dk} {side used : Nat} {recs : List (List Int)} {dead : Bool} {L : List Rw} (h : LgAt W0 w l d D side used recs dead L) (v : Value) : LgAt W0 (w.alloc (.cells #[v] 61)) l d D side used recs dead (rowV (.slice (some ⟨w.heap.size, 0, none⟩) 1 1) [v] :: L) :=
  h.join ((Own.start w).made 61 1 #[v] 1 rfl (by unfold maxLen; decide))

theorem refM_ok {dead down : Bool} {room : Nat} {recs : List (List Int)} (h : refM dead down room recs = 0) : dead = false ∧ down = false ∧ (∀ b ∈ recs, b.length ≤ 4096) ∧ (secsB recs).length ≤ room := by
  unfold refM at h
  split at h
  · cases h
  · rename_i h1
    split at h
    · cases h
    · rename_i h2
      split at h
      · cases h
      · rename_i h3
        refine ⟨?_, ?_, fun b hb => ?_, by omega⟩
        · cases dead
          · rfl
          · exact absurd rfl h1
        · cases down
          · rfl
          · exact absurd (by cases dead <;> rfl) h1
        · rcases Nat.lt_or_ge 4096 b.length with h4 | h4
          · exact absurd ⟨b, hb, h4⟩ h2
          · exact h4
theorem keepM_len (D : Dk) (hc : Clean D) (hu : D.down = false) (h0 : 0 ≤ D.left) (h side used : Nat) (ws : List (List Value)) (h6 : 6 ≤ D.last.length) (hh : h = (D.last.length - 2) / 2) (hs : side ≤ 1) (hf : used + ws.length ≤ h) : (keepM D h side used ws).1.last.length = D.last.length := by
  have hb := half_le D.last.length h6
  rw [← hh] at hb
  have hsh : side * h ≤ h := by
    rcases Nat.le_one_iff_eq_zero_or_eq_one.1 hs with rfl | rfl <;> omega
  obtain ⟨hW, _, _, hlf⟩ := writes_clean D hc hu h0 (2 + side * h + used) ws (by omega)
  unfold keepM
  rcases hW.ends with ⟨e1, u1, l1⟩ | ⟨e1, u1, f1, l1⟩
  · rw [e1, if_neg (by decide)]
    obtain ⟨hW2, _, _, _⟩ := writes_clean _ hW.clean u1 hlf 0 [bs (rootB side (used + ws.length))] (by rw [hW.len]; simp; omega)
    exact hW2.len.trans hW.len
  · rw [e1, if_pos (by decide)]
    exact hW.len
/-- Sectors of the call's own, as a list that is written. -/
theorem rowSecs_in {W0 : Base} {w : World} {L : List Rw} {lv : Value} {ss : List (List Int)} (h : Own W0 w L) (hm : rowSecs lv ss ∈ L) : ∃ a c, lv = .slice a ss.length c ∧ SecsIn L a (ss.map bs) := by
  have h1 := h.only hm
  obtain ⟨a, c, hv, _, _⟩ := Own.sized (h := h1)
  refine ⟨a, c, hv, fun hp => ?_⟩
  rw [List.length_map] at hp
  obtain ⟨g, cap, hf, _, _, _, _⟩ := Own.form (h := h1) hp
  rw [hv] at hf
  injection hf with e1 e2 e3
  subst e1
  refine ⟨g, c, rfl, ?_⟩
  rw [List.length_map]
  rw [hv] at hm
  exact hm

theorem perm3 (a b c : Rw) (L : List Rw) : ([a] ++ (b :: c :: L)).Perm (c :: a :: b :: L) := ((List.Perm.swap c b L).cons a).trans (List.Perm.swap c a (b :: L))
theorem perm2 (a b : Rw) (L : List Rw) : (a :: b :: L).Perm (b :: a :: L) := List.Perm.swap b a L
theorem src_box (w : World) (T : TypeId) (v : Value) (h : v.oneCell' = true) : Src (w.alloc (.cells #[v] T)) (.slice (some ⟨w.heap.size, 0, none⟩) 1 1) 1 [v] := by
  refine .inr ⟨_, _, rfl, fun j u hj => ?_, fun u hu => by rw [List.mem_singleton.1 hu]; exact h⟩
  rw [Addr.add_mid, Nat.zero_add, World.cell?_alloc_new]
  simpa using hj
/-- The list with one record more is the log's. -/
theorem app_end {W0 : Base} {w : World} {l d : Nat} {D : Dk} {side used n : Nat} {recs : List (List Int)} {v lv u : Value} {b : List Int} {vs : List Value} {M R L : List Rw} (hn : n = vs.length) (hA : DkAt W0 w d D (⟨61, 1, v, n + 1, vs ++ [u]⟩ :: rowU u b :: rowLog l d side used lv false :: (M ++ (R ++ L)))) (hL : Lst M vs recs) (hz : Byts b)
    (h6 : 6 ≤ D.last.length) (hs : side ≤ 1) (hf : used ≤ (D.last.length - 2) / 2) : LgAt W0 (w.setCell ⟨l, 3, none⟩ v) l d D side used (recs ++ [b]) false L := by
  subst hn
  have h1 : DkAt W0 (w.setCell ⟨l, 3, none⟩ v) d D (rowLog l d side used v false :: ⟨61, 1, v, vs.length + 1, vs ++ [u]⟩ :: rowU u b :: (M ++ (R ++ L))) := DkAt.onSet (h := hA.perm (perm3 _ _ _ _)) 3 v
  have e : (⟨61, 1, v, vs.length + 1, vs ++ [u]⟩ : Rw) = rowV v (vs ++ [u]) := by unfold rowV; rw [List.length_append]; rfl
  rw [e] at h1
  have hp : Pc [rowU u b] u b := Pc.all (hA.own.only (List.mem_cons_of_mem _ (List.mem_cons_self ..))) hz
  refine ⟨h6, hs, hf, v, vs ++ [u], rowU u b :: M, h1.sub ?_, ?_⟩
  · exact ((((List.Sublist.append_left (List.sublist_append_right R L) M).cons_cons _).cons_cons _).cons_cons _)
  · exact (hL.mono fun r hr => List.mem_cons_of_mem _ hr).push (hp.mono fun r hr => by rw [List.mem_singleton.1 hr]; exact List.mem_cons_self ..)
/-! append of lists of records, as a rule for a region that draws its order. -/
def okApp (w : World) (ty : TypeId) (x y : Value) : Prop := ∃ v w', (Builtin.append_ #[91, 91] ty #[x, y]).run Tryz.prog w = .ok v w'
noncomputable def appV (w : World) (ty : TypeId) (x y : Value) : Value := match (Builtin.append_ #[91, 91] ty #[x, y]).run Tryz.prog w with
  | .ok v _ => v
  | _ => undef
noncomputable def appW (w : World) (ty : TypeId) (x y : Value) : World := match (Builtin.append_ #[91, 91] ty #[x, y]).run Tryz.prog w with
  | .ok _ w' => w'
  | _ => w
theorem wp_app {dd : Option Tmp} {x y : Operand} {ty : TypeId} {ps : String} {af : Array Edge} {gd : Option (Nat × Bool)} {a : Act} {w : World} {K : Act → World → Prop} {Q : Exit → Act → World → Prop} (h : okApp w ty (a.eval x) (a.eval y)) :
    Oper.wp Tryz.prog ⟨dd, .call { callee := .builtin .append, args := #[x, y], argTypes := #[91, 91] }, ty, ps, af, gd⟩ a w K Q = K (a.put dd (appV w ty (a.eval x) (a.eval y))) (appW w ty (a.eval x) (a.eval y)) := by
  obtain ⟨v, w', hr⟩ := h
  unfold Oper.wp appV appW
  simp [execOp, resolve, invoke, builtin, hr, Result.andThen]
  exact Iff.rfl
attribute [local go_sem ↓] wp_app Go.wp_at_zero Go.wp_at_succ
theorem keep_lg {W0 : Base} {w : World} {l d : Nat} {D : Dk} {s0 u0 : Nat} {recs : List (List Int)} {dead : Bool} {L : List Rw} (hA : LgAt W0 w l d D s0 u0 recs dead L) (hc : Clean D) (hup : D.down = false) (side used h : Nat) (a : Option Addr) (c : Nat) (ss : List (List Int))
    (hL : SecsIn L a (ss.map bs)) (hsec : ∀ s ∈ ss, s.length = 64) (hs : side ≤ 1) (hh : h = (D.last.length - 2) / 2) (hf : used + ss.length ≤ h) (hst : D.steps ≤ 4611686018427000000) :
    Calls Tryz.prog 48 #[.pointer (some ⟨l, 0, none⟩), .agg #[.int .i64 side, .int .i64 used], .slice a ss.length c] w fun e w' => e = .returned (.int .i64 (keepM D h side used (ss.map bs)).2) ∧ ∃ lv vs M, DkAt W0 w' d (keepM D h side used (ss.map bs)).1 (keptRow l d s0 u0 lv dead side (used + ss.length) (keepM D h side used (ss.map bs)).2 :: rowV lv vs :: (M ++ L)) ∧ Lst M vs recs := by
  obtain ⟨lv, vs, M, h1, h2⟩ := hA.rest
  have := keep_dk h1 hc hup hA.six side used h a c (ss.map bs) (hL.mono fun r hr => List.mem_cons_of_mem _ (List.mem_append_right _ hr)) (fun s hs => by
    obtain ⟨x, hx, rfl⟩ := List.mem_map.1 hs
    exact isSec_bs x (hsec x hx)) hs hh (by rw [List.length_map]; exact hf) hst
  rw [List.length_map] at this
  exact this.mono fun e w' ⟨h3, h4⟩ => ⟨h3, lv, vs, M, h4, h2⟩
theorem layB_64 (b : List Int) : ∀ s ∈ layB b, s.length = 64 := by
  intro s hs
  obtain ⟨i, _, rfl⟩ := List.mem_map.1 hs
  exact cutB_length _ _
theorem secsB_64 (recs : List (List Int)) : ∀ s ∈ secsB recs, s.length = 64 := by
  intro s hs
  obtain ⟨b, _, hs⟩ := List.mem_flatMap.1 hs
  exact layB_64 b s hs

set_option maxHeartbeats 3200000 in
set_option maxRecDepth 100000 in
theorem append_lg {W0 : Base} {w : World} {l d : Nat} {D : Dk} {side used : Nat} {recs : List (List Int)} {dead : Bool} {L : List Rw} (h : LgAt W0 w l d D side used recs dead L) (v : Value) (b : List Int) (hb : ∀ w', Own W0 w' L → By w' v b) (hR : recs.length ≤ 1000000)
    (hc : Clean D) (hst : D.steps ≤ 4611686018427000000) (code : Int) (hcode : code = refM dead D.down ((D.last.length - 2) / 2 - used) [b])
    (Q : Ending → World → Prop) (hno : ∀ w', code ≠ 0 → LgAt W0 w' l d D side used recs (dead || D.down) L → Q (.returned (.int .i64 code)) w')
    (hyes : ∀ w', code = 0 → (keepM D ((D.last.length - 2) / 2) side used (secsV [b])).2 = 0 → LgAt W0 w' l d (keepM D ((D.last.length - 2) / 2) side used (secsV [b])).1 side (used + roomM b.length) (recs ++ [b]) false L → Q (.returned (.int .i64 0)) w')
    (hbad : ∀ w', code = 0 → (keepM D ((D.last.length - 2) / 2) side used (secsV [b])).2 ≠ 0 → LgAt W0 w' l d (keepM D ((D.last.length - 2) / 2) side used (secsV [b])).1 side used recs true L → Q (.returned (.int .i64 (keepM D ((D.last.length - 2) / 2) side used (secsV [b])).2)) w') :
    Calls Tryz.prog 58 #[.pointer (some ⟨l, 0, none⟩), v] w Q := by
  have hby := hb w h.own
  have hbl := hby.len
  have hbz := hby.2.1
  have hm := h.ok.le
  obtain ⟨a0, c0, rfl, hc1, hc2⟩ := hby.2.2
  have Hleft := Lib.hid (left_any h)
  obtain ⟨room, hroom⟩ : ∃ room, (D.last.length - 2) / 2 - used = room := ⟨_, rfl⟩
  have hroom4 : room ≤ 4096 := by omega
  rw [hroom] at Hleft hcode
  have H := Lib.hid h
  have Hb := Lib.hid hb
  have Hcode := Lib.hid hcode
  have Hno := Lib.hid hno
  have Hyes := Lib.hid hyes
  have Hbad := Lib.hid hbad
  have Hst := Lib.hid hst
  have Hc := Lib.hid hc
  have Hbz := Lib.hid hbz
  have HR := Lib.hid hR
  have Hroom := Lib.hid hroom
  clear h hb hcode hno hyes hbad hst hc hbz hR hroom hby hm
  go_enter Tryz.func58, Tryz.ntmps58
  go_upto_region 1 with (fail)
  go_cut [5] (fun s wc => s = .int .i64 code ∧ LgAt W0 wc l d D side used recs (dead || D.down) L)
  case first =>
    go_wp2_with fail
    refine Hleft.out.mono ?_
    rintro e w' ⟨rfl, n, rfl⟩
    go_wp2_with fail
    refine (refused_lg ((H.out.drewN (n := n)).box (.slice a0 b.length c0)) room hroom4 (some ⟨_, 0, none⟩) 1 [(.slice a0 b.length c0, b)] (fun w' hO => one_parts (Hb.out w' hO.tail) hO) (by simp)).mono ?_
    rintro e w2 ⟨rfl, hA2⟩
    have HA2 := Lib.hid (hA2.sub (List.sublist_cons_self _ _))
    clear hA2
    rw [show refM dead D.down room ([(Value.slice a0 b.length c0, b)].map (·.2)) = code from Hcode.out.symm]
    go_wp2_with fail
    go_meet
    exact ⟨rfl, HA2.out⟩
  case rest =>
    obtain ⟨rfl, hA⟩ := hcut
    have HA := Lib.hid hA
    clear hA
    by_cases h0 : code = 0
    · subst h0
      obtain ⟨rfl, hup, hl4, hfit⟩ := refM_ok Hcode.out.symm
      have hl4 := hl4 b (List.mem_singleton.2 rfl)
      rw [secsB_one, layB_length] at hfit
      rw [hup] at HA
      have HA : Hid (LgAt W0 wc l d D side used recs false L) := HA
      have h6 := HA.out.six
      have hsd := HA.out.sides
      have hft := HA.out.fit
      obtain ⟨h, hh⟩ : ∃ h, h = (D.last.length - 2) / 2 := ⟨_, rfl⟩
      rw [← hh] at Hyes Hbad Hroom hft
      have hln : (secsV [b]).length = roomM b.length := by rw [secsV_length, secsB_one, layB_length]
      have hfit2 : used + (secsV [b]).length ≤ h := by rw [hln]; have := Hroom.out; omega
      have hklen := keepM_len D Hc.out hup HA.out.ok.left0 h side used (secsV [b]) h6 hh hsd hfit2
      obtain ⟨c0', c1, c2, c4, cf, cl⟩ := HA.out.cells
      have Hln := Lib.hid hln
      have Hfit2 := Lib.hid hfit2
      have Hklen := Lib.hid hklen
      have Hh := Lib.hid hh
      have Hup := Lib.hid hup
      have Hl4 := Lib.hid hl4
      obtain ⟨r, hr⟩ : ∃ r, keepM D h side used (secsV [b]) = r := ⟨_, rfl⟩
      rw [hr] at Hyes Hbad Hklen
      have Hr := Lib.hid hr
      have hby := Hb.out wc HA.out.own
      have Hby := Lib.hid hby
      clear hln hfit2 hklen hh hup hl4 hfit hr hft h6 Hleft H Hno hby cf c0' c4
      go_upto_region 4 with (fail)
      go_cut [6] (fun s wc => ∃ lv vs M R, s = .int .i64 r.2 ∧ DkAt W0 wc d r.1 (keptRow l d side used lv false side (used + roomM b.length) r.2 :: rowV lv vs :: (M ++ (R ++ L))) ∧ Lst M vs recs)
      case first =>
        go_region_with (first
          | (go_at_call 100; refine (lay_bytes (.slice a0 b.length c0) b _ ?_ Hl4.out).mono ?_; (first | exact Hby.out | exact Hby.out.drew); rintro e w3 ⟨lv3, rfl, hO3⟩; (first | have HA3 := Lib.hid (HA.out.join hO3) | have HA3 := Lib.hid (HA.out.drew.join hO3)); obtain ⟨g0, g1, g2, g4, gf, gl⟩ := HA3.out.cells; obtain ⟨a3, c3, rfl, hin⟩ := rowSecs_in HA3.out.own (List.mem_append_left _ (List.mem_cons_self ..)); have Hin := Lib.hid hin; clear hO3 hin gf g4 g0)
          | (go_at_call 48; refine (keep_lg HA3.out Hc.out Hup.out side used h a3 c3 (layB b) Hin.out (layB_64 b) hsd Hh.out (by have := Hfit2.out; rw [Hln.out] at this; rw [layB_length]; exact this) Hst.out).mono ?_; rintro e w4 ⟨rfl, lv, vs, M, hA4, hL4⟩; rw [show keepM D h side used ((layB b).map bs) = r from (by rw [← Hr.out, secsV, secsB_one])] at hA4 ⊢; rw [layB_length] at hA4; have HA4 := Lib.hid hA4; have HL4 := Lib.hid hL4; clear hA4 hL4))
        all_goals (go_wp2_with fail; go_meet)
        all_goals exact ⟨lv, vs, M, [_], rfl, HA4.out, HL4.out⟩
      case rest =>
        obtain ⟨lv, vs, M, R, rfl, hA4, hL4⟩ := hcut
        have HA4 := Lib.hid hA4
        have HL4 := Lib.hid hL4
        clear hA4 hL4 c1 c2 cl Hby
        obtain ⟨D2, e2⟩ := r
        simp only at Hyes Hbad HA4 Hklen ⊢
        by_cases he : e2 = 0
        · subst he
          have hA5 : DkAt W0 wc d D2 (rowLog l d side (used + roomM b.length) lv false :: rowV lv vs :: (M ++ (R ++ L))) := HA4.out
          obtain ⟨i0, hi, hz0, hz1, hz2⟩ := info_parts info_v
          have HA5 := Lib.hid hA5
          have Hby5 := Lib.hid (Hb.out wc (hA5.own.of_mem (((List.sublist_append_of_sublist_right (List.sublist_append_right R L)).cons _).cons _)))
          obtain ⟨b0, b1, b2, b3, b4, bf, bl⟩ := log_cells hA5
          have hvl : vs.length ≤ 1000000 := by rw [HL4.out.1]; exact HR.out
          have Hvl := Lib.hid hvl
          have hbl9 : b.length ≤ 140737488355328 := by have := Hl4.out; omega
          clear hA5 HA4 bf b0 b1 b2 b4 hvl Hbad
          obtain ⟨lq, cq, hlq, _, _⟩ := Own.sized (h := (HA5.out.own.tail : Own W0 wc (rowV lv vs :: (M ++ (R ++ L)))))
          subst hlq
          go_upto_region 7 with (fail)
          go_region_with (first
            | (go_at_call 89; refine (clone_any (.slice a0 b.length c0) b _ (by first | exact Hby5.out | exact Hby5.out.drew) hbl9).mono ?_; rintro e w5 ⟨v5, rfl, hO5⟩; obtain ⟨a5, k5, c5, rfl⟩ := hO5.form3; (first | have HA6 := Lib.hid (HA5.out.join hO5) | have HA6 := Lib.hid (HA5.out.drew.join hO5)); have HP6 := Lib.hid (Pc.all (HA6.out.own : Own W0 w5 (rowU (.slice a5 k5 c5) b :: _)) Hbz.out); obtain ⟨R2, h7, h8⟩ := (HA6.out.perm (perm3 _ _ _ _)).first; have q3 : w5.cell? ⟨l, 3, none⟩ = some (.slice lq vs.length cq) := (log_cells (HA6.out.perm (List.Perm.swap _ _ _))).2.2.2.1; have ql : l < w5.heap.size := (log_cells (HA6.out.perm (List.Perm.swap _ _ _))).2.2.2.2.2.2; obtain ⟨v6, w6, hr6, hO6⟩ := run_append_src (P := Tryz.prog) (t := 91) (ty := 91) (h7.alloc (.cells #[.slice a5 k5 c5] 61)) i0 (.slice none 0 0) 24 Tryz.underlying91 hi hz0 hz1 hz2 rfl (by decide) (.slice (some ⟨w5.heap.size, 0, none⟩) 1 1) 1 (src_box w5 61 (.slice a5 k5 c5) rfl) (by simp) (by have := Hvl.out; unfold maxLen; omega) (by have := Hvl.out; omega); obtain ⟨a6, c6, rfl, _, _⟩ := Own.sized (h := hO6); have qk : okApp (w5.alloc (.cells #[.slice a5 k5 c5] 61)) 91 (.slice lq vs.length cq) (.slice (some ⟨w5.heap.size, 0, none⟩) 1 1) := ⟨_, _, hr6⟩; have qv : appV (w5.alloc (.cells #[.slice a5 k5 c5] 61)) 91 (.slice lq vs.length cq) (.slice (some ⟨w5.heap.size, 0, none⟩) 1 1) = .slice a6 (vs.length + 1) c6 := (by unfold appV; rw [hr6]); have qw : appW (w5.alloc (.cells #[.slice a5 k5 c5] 61)) 91 (.slice lq vs.length cq) (.slice (some ⟨w5.heap.size, 0, none⟩) 1 1) = w6 := (by unfold appW; rw [hr6]); have HA7 := Lib.hid (h8 w6 _ _ hO6); obtain ⟨_, _, _, z3, _, zf, zl⟩ := log_cells (HA7.out.perm (perm3 _ _ _ _)); have zf3 := zf 3; clear hO5 h7 h8 hO6 zf hr6))
          all_goals have HF := Lib.hid (app_end rfl HA7.out HL4.out Hbz.out (by rw [Hklen.out]; exact HA.out.six) hsd (by rw [Hklen.out, ← Hh.out]; have := Hfit2.out; rw [Hln.out] at this; exact this))
          all_goals clear HA7 qk qv qw q3 ql z3 zf3 zl
          all_goals go_wp2_with fail
          all_goals exact Hyes.out _ (by trivial) (by trivial) HF.out
        · have he' : (e2 != 0) = true := by simpa using he
          have hA5 : DkAt W0 wc d D2 (rowLog l d side used lv true :: rowV lv vs :: (M ++ (R ++ L))) := by
            have := HA4.out
            rw [keptRow, if_neg he] at this
            exact this
          have HF := Lib.hid (show LgAt W0 wc l d D2 side used recs true L from ⟨by rw [Hklen.out]; exact HA.out.six, hsd, by rw [Hklen.out]; exact HA.out.fit, lv, vs, M, hA5.sub ((List.Sublist.append_left (List.sublist_append_right R L) M).cons_cons _ |>.cons_cons _), HL4.out⟩)
          have HE := Lib.hid he
          clear hA5 he
          go_wp2_with fail
          exact Hbad.out _ (by trivial) HE.out HF.out
    · have h0' : (code != 0) = true := by simpa using h0
      go_wp2_with fail
      exact Hno.out _ h0 HA.out
end Go.Proofs.YtlkgmhlaoahdlaaGreatDoor
end

/- Records are kept in the place of all others. -/
section
namespace Go.Proofs.YtlkgmhlaoahdlaaGreatDoor
open Go.RowKit
set_option linter.unusedVariables false
set_option linter.unusedSimpArgs false

theorem LgAt.first {W0 : Base} {w : World} {l d : Nat} {D : Dk} {side used : Nat} {recs : List (List Int)} {dead : Bool} {L : List Rw} {r : Rw} (h : LgAt W0 w l d D side used recs dead (r :: L)) : ∃ R : List Rw, Own W0 w (r :: R) ∧ (∀ w' r', Own W0 w' (r' :: R) → LgAt W0 w' l d D side used recs dead (r' :: L)) := by
  obtain ⟨lv, vs, M, h1, h2⟩ := h.rest
  obtain ⟨R, h3, h4⟩ := h1.open
  refine ⟨R ++ (rowLog l d side used lv dead :: rowV lv vs :: (M ++ L)), h3.perm ?_, fun w' r' h' => ⟨h.six, h.sides, h.fit, lv, vs, M, h4 _ _ (h'.perm ?_), h2⟩⟩
  · have e : R ++ (rowLog l d side used lv dead :: rowV lv vs :: (M ++ (r :: L))) = (R ++ (rowLog l d side used lv dead :: rowV lv vs :: M)) ++ (r :: L) := by simp
    have e2 : r :: (R ++ (rowLog l d side used lv dead :: rowV lv vs :: (M ++ L))) = r :: ((R ++ (rowLog l d side used lv dead :: rowV lv vs :: M)) ++ L) := by simp
    rw [e, e2]
    exact List.perm_middle
  · have e : R ++ (rowLog l d side used lv dead :: rowV lv vs :: (M ++ (r' :: L))) = (R ++ (rowLog l d side used lv dead :: rowV lv vs :: M)) ++ (r' :: L) := by simp
    have e2 : r' :: (R ++ (rowLog l d side used lv dead :: rowV lv vs :: (M ++ L))) = r' :: ((R ++ (rowLog l d side used lv dead :: rowV lv vs :: M)) ++ L) := by simp
    rw [e, e2]
    exact List.perm_middle.symm
theorem LgAt.perm {W0 : Base} {w : World} {l d : Nat} {D : Dk} {side used : Nat} {recs : List (List Int)} {dead : Bool} {L L' : List Rw} (h : LgAt W0 w l d D side used recs dead L) (hp : L.Perm L') : LgAt W0 w l d D side used recs dead L' := by
  obtain ⟨lv, vs, M, h1, h2⟩ := h.rest
  exact ⟨h.six, h.sides, h.fit, lv, vs, M, h1.perm (((List.Perm.append_left M hp).cons _).cons _), h2⟩
theorem LgAt.nilSecs {W0 : Base} {w : World} {l d : Nat} {D : Dk} {side used : Nat} {recs : List (List Int)} {dead : Bool} {L : List Rw} (h : LgAt W0 w l d D side used recs dead L) : LgAt W0 w l d D side used recs dead (rowSecs (.slice none 0 0) [] :: L) :=
  h.join ((Own.start w).nil 111 64)
theorem secsB_take_le (recs : List (List Int)) (k : Nat) : (secsB (recs.take k)).length ≤ (secsB recs).length := by
  have h : secsB recs = secsB (recs.take k) ++ secsB (recs.drop k) := by rw [← secsB_append, List.take_append_drop]
  rw [h, List.length_append]; omega
theorem built_root (x : Int) : Tryz.prog.built 115 [(0, .int .i64 x)] = some #[.int .i64 x, .int .i64 0] := by kernel_rfl
theorem flat_one (ss : List (List Int)) : ∀ u ∈ (ss.map bs).flatten, u.oneCell' = true := by
  intro u hu
  obtain ⟨l, hl, hu⟩ := List.mem_flatten.1 hu
  obtain ⟨x, _, rfl⟩ := List.mem_map.1 hl
  exact bs_one x u hu
theorem flat_len (ss : List (List Int)) (h : ∀ s ∈ ss, s.length = 64) : ((ss.map bs).flatten).length = ss.length * 64 := by
  rw [flat_length 64 _ (fun s hs => by obtain ⟨x, hx, rfl⟩ := List.mem_map.1 hs; rw [bs_length]; exact h x hx), List.length_map]

set_option maxHeartbeats 3200000 in
set_option maxRecDepth 100000 in
theorem rewrite_lg {W0 : Base} {w : World} {l d : Nat} {D : Dk} {side used : Nat} {recs : List (List Int)} {dead : Bool} {L : List Rw} (h : LgAt W0 w l d D side used recs dead L) (a : Option Addr) (c : Nat) (PS : List (Value × List Int)) (recs2 : List (List Int)) (h2 : PS.map (·.2) = recs2) (hP : ∀ w', Own W0 w' L → Parts w' a PS) (hn : PS.length ≤ 1000000)
    (hc : Clean D) (hst : D.steps ≤ 4611686018427000000) (code : Int) (hcode : code = refM dead D.down ((D.last.length - 2) / 2) recs2)
    (Q : Ending → World → Prop) (hno : ∀ w', code ≠ 0 → LgAt W0 w' l d D side used recs (dead || D.down) L → Q (.returned (.int .i64 code)) w')
    (hyes : ∀ w', code = 0 → (keepM D ((D.last.length - 2) / 2) (1 - side) 0 (secsV recs2)).2 = 0 → LgAt W0 w' l d (keepM D ((D.last.length - 2) / 2) (1 - side) 0 (secsV recs2)).1 (1 - side) (secsB recs2).length recs2 false L → Q (.returned (.int .i64 0)) w')
    (hbad : ∀ w', code = 0 → (keepM D ((D.last.length - 2) / 2) (1 - side) 0 (secsV recs2)).2 ≠ 0 → LgAt W0 w' l d (keepM D ((D.last.length - 2) / 2) (1 - side) 0 (secsV recs2)).1 side used recs true L → Q (.returned (.int .i64 (keepM D ((D.last.length - 2) / 2) (1 - side) 0 (secsV recs2)).2)) w') :
    Calls Tryz.prog 60 #[.pointer (some ⟨l, 0, none⟩), .slice a PS.length c] w Q := by
  have hm := h.ok.le
  have Hhalf := Lib.hid (half_any h)
  obtain ⟨hf, hhf⟩ : ∃ hf, (D.last.length - 2) / 2 = hf := ⟨_, rfl⟩
  have hhf4 : hf ≤ 4096 := by omega
  rw [hhf] at Hhalf hcode hyes hbad
  have Href := Lib.hid (refused_lg h hf hhf4 a c PS hP hn)
  rw [h2, ← hcode] at Href
  have H := Lib.hid h
  have HP := Lib.hid hP
  have H2 := Lib.hid h2
  have Hcode := Lib.hid hcode
  have Hno := Lib.hid hno
  have Hyes := Lib.hid hyes
  have Hbad := Lib.hid hbad
  have Hst := Lib.hid hst
  have Hc := Lib.hid hc
  have Hhf := Lib.hid hhf
  clear h hP hcode hno hyes hbad hst hc hhf hm h2
  go_enter Tryz.func60, Tryz.ntmps60
  go_wp2_with fail
  refine Hhalf.out.mono ?_
  rintro e w' ⟨rfl, rfl⟩
  go_wp2_with fail
  refine Href.out.mono ?_
  rintro e w2 ⟨rfl, hA2⟩
  have HA2 := Lib.hid hA2
  clear hA2 Hhalf Href H
  by_cases h0 : code = 0
  · subst h0
    obtain ⟨rfl, hup, hl4, hfit⟩ := refM_ok Hcode.out.symm
    rw [hup] at HA2
    have hsd := HA2.out.sides
    have HAn := Lib.hid (show LgAt W0 w2 l d D side used recs false (rowSecs (.slice none 0 0) [] :: L) from HA2.out.nilSecs)
    have HA2 : Hid (LgAt W0 w2 l d D side used recs false L) := HA2
    have h6 := HA2.out.six
    have hklen := keepM_len D Hc.out hup HA2.out.ok.left0 hf (1 - side) 0 (secsV recs2) h6 Hhf.out.symm (by omega) (by rw [secsV_length]; omega)
    have H6 := Lib.hid h6
    have Hklen := Lib.hid hklen
    have Hup := Lib.hid hup
    have Hl4 := Lib.hid hl4
    have Hfit := Lib.hid hfit
    have hfit2 : (secsB recs2).length ≤ 4096 := by omega
    have Hfit2 := Lib.hid hfit2
    have hft := Lib.hid HA2.out.fit
    clear hklen hup hl4 hfit hfit2 h6 Hno HA2
    obtain ⟨i0, hi, hz0, hz1, hz2⟩ := info_parts info_s
    go_wp2_with fail
    go_loopw [6, 20] (fun s t wr => ∃ (k : Nat), k ≤ PS.length ∧ t = .int .i64 k ∧ LgAt W0 wr l d D side used recs false (rowSecs s (secsB (recs2.take k)) :: L)) (fun _ t _ => PS.length - (intOf t).toNat)
    case atStart => exact ⟨0, Nat.zero_le _, rfl, HAn.out⟩
    case round =>
      obtain ⟨k, hk, rfl, hA⟩ := hrel
      by_cases hlt : k < PS.length
      · have hlm : k < recs2.length := by rw [← H2.out]; simpa using hlt
        have hget : recs2[k] = PS[k].2 := by simp only [← H2.out]; rw [List.getElem_map]
        have hpt := HP.out wr (hA.own.tail)
        obtain ⟨g, o, x, c', rfl, hcl, hv, hx1, hx2⟩ := hpt.form k hlt
        have hby : By wr PS[k].1 PS[k].2 := by
          obtain ⟨_, _, _, _, hq⟩ := hpt k hlt
          exact hq
        rw [hv] at hby
        have hl4 : (PS[k].2).length ≤ 4096 := Hl4.out _ (by rw [← hget]; exact List.getElem_mem _)
        have hT := secsB_take recs2 k hlm
        have hTa : secsB (recs2.take (k + 1)) = secsB (recs2.take k) ++ layB PS[k].2 := by rw [List.take_succ_eq_append_getElem hlm, secsB_append, secsB_one, hget]
        have hle := secsB_take_le recs2 (k + 1)
        rw [hTa, List.length_append] at hle
        have HTa := Lib.hid hTa
        have HA := Lib.hid hA
        have Hby := Lib.hid hby
        have Hle := Lib.hid hle
        obtain ⟨lq, cq, rfl, _, _⟩ := Own.sized (h := hA.own)
        clear hget hpt hby hT hTa hle hA hlm hv
        generalize PS[k].2 = zs at *
        go_wp2_with fail
        refine (lay_bytes (.slice x zs.length c') zs wr Hby.out hl4).mono ?_
        rintro e w3 ⟨lv3, rfl, hO3⟩
        have HA3 := Lib.hid ((HA.out.join hO3).perm (List.Perm.swap _ _ _))
        obtain ⟨a3, c3, rfl, hc31, hc32⟩ := Own.sized (h := hO3)
        have hsrc := Own.src' (h := (HA.out.join hO3).own) (flat_one _)
        have Hsrc := Lib.hid hsrc
        obtain ⟨R2, h7, h8⟩ := HA3.out.first
        have H7 := Lib.hid h7
        have H8 := Lib.hid h8
        have h63 : (secsB (recs2.take k)).length + (layB zs).length ≤ maxLen := by have := Hle.out; have := Hfit2.out; unfold maxLen; omega
        have hby : ((secsB (recs2.take k)).length + (layB zs).length) * 64 ≤ 140737488355328 := by have := Hle.out; have := Hfit2.out; omega
        have H63 := Lib.hid h63
        have Hbyt := Lib.hid hby
        have hfl := Lib.hid (flat_len (layB zs) (layB_64 zs))
        have hzz : (Value.agg zSec.toArray).cells.size = 64 := rfl
        clear hO3 hsrc h7 h8 h63 hby HA3 HA Hby
        go_wp2_with (at_builtin; refine wpList_append_src rfl (.tmp 24) (.tmp 26) 93 rfl (.slice lq (secsB (recs2.take k)).length cq) (secsB (recs2.take k)).length (((secsB (recs2.take k)).map bs).flatten) (.slice a3 (layB zs).length c3) (layB zs).length (((layB zs).map bs).flatten) rfl rfl H7.out i0 (.agg zSec.toArray) 64 Tryz.underlying93 hi hz0 hz1 hz2 hzz (by decide) Hsrc.out hfl.out H63.out Hbyt.out ?_)
        intro v6 w6 hO6
        have hA7 := H8.out w6 (rowSecs v6 (secsB (recs2.take (k + 1)))) (by
          unfold rowSecs
          rw [HTa.out, List.length_append, List.map_append, List.flatten_append]
          exact hO6)
        have HA7 := Lib.hid (hA7.perm (List.Perm.refl _))
        clear hO6 hA7 H7 H8
        go_wp2_with fail
        exact ⟨⟨k + 1, by omega, by go_num, HA7.out.sub (.cons_cons _ (.cons _ (List.Sublist.refl _)))⟩, by simp [intOf]; omega⟩
      · obtain rfl : k = PS.length := by omega
        have htk : recs2.take PS.length = recs2 := List.take_of_length_le (by rw [← H2.out]; simp)
        rw [htk] at hA
        obtain ⟨c0, c1, c2, c4, cf, cl⟩ := hA.cells
        obtain ⟨a6, c6, rfl, hin⟩ := rowSecs_in hA.own (List.mem_cons_self ..)
        have hbr := built_root (((1 - side : Nat) : Int))
        have hsub : (1 : Int) - (side : Int) = ((1 - side : Nat) : Int) := by omega
        have hkp := keep_lg hA Hc.out Hup.out (1 - side) 0 hf a6 c6 (secsB recs2) hin (secsB_64 recs2) (by omega) Hhf.out.symm (by rw [Nat.zero_add]; exact Hfit.out) Hst.out
        rw [show (secsB recs2).map bs = secsV recs2 from rfl, Nat.zero_add] at hkp
        have Hkp := Lib.hid hkp
        obtain ⟨r, hr⟩ : ∃ r, keepM D hf (1 - side) 0 (secsV recs2) = r := ⟨_, rfl⟩
        rw [hr] at Hkp Hyes Hbad Hklen
        have hs1 : 1 - side ≤ 1 := by omega
        obtain ⟨s2, hs2⟩ : ∃ s2, 1 - side = s2 := ⟨_, rfl⟩
        rw [hs2] at Hkp Hyes hbr hsub hs1
        clear hA hin hkp htk hr hs2 cf c0 c2 c4 HAn
        go_wp2_with (refine wpList_build rfl 115 _ rfl [(0, .int .i64 (s2 : Int))] rfl _ hbr ?_)
        refine Hkp.out.mono ?_
        rintro e w3 ⟨rfl, lv, vs, M, hA3, hL3⟩
        have HA3 := Lib.hid hA3
        have HL3 := Lib.hid hL3
        clear hA3 hL3 Hkp c1 cl hbr hsub
        obtain ⟨D2, e2⟩ := r
        simp only at Hyes Hbad HA3 Hklen ⊢
        by_cases he : e2 = 0
        · subst he
          have hA4 : DkAt W0 w3 d D2 (rowLog l d s2 (secsB recs2).length lv false :: rowV lv vs :: (M ++ (rowSecs (.slice a6 (secsB recs2).length c6) (secsB recs2) :: L))) := HA3.out
          have hPw := HP.out w3 (hA4.own.of_mem ((((List.sublist_append_of_sublist_right (List.sublist_cons_self _ _)).cons _).cons _)))
          have hcp := copies_any a c PS w3 hPw hn (fun p hp => by
            have : p.2 ∈ PS.map (·.2) := List.mem_map_of_mem hp
            rw [H2.out] at this
            have := Hl4.out _ this
            omega)
          rw [H2.out] at hcp
          have Hcp := Lib.hid hcp
          have HA4 := Lib.hid hA4
          clear hA4 hPw hcp HA3 Hbad
          go_wp2_with fail
          refine Hcp.out.mono ?_
          rintro e w4 ⟨lv2, vs2, M2, rfl, hO4, hL4⟩
          have hA5 : DkAt W0 w4 d D2 (rowLog l d s2 (secsB recs2).length lv false :: ((rowV lv2 vs2 :: M2) ++ (rowV lv vs :: (M ++ (rowSecs (.slice a6 (secsB recs2).length c6) (secsB recs2) :: L))))) := (HA4.out.join hO4).perm List.perm_middle
          obtain ⟨b0, b1, b2, b3, b4, bf, bl⟩ := log_cells hA5
          have bf3 := bf 3
          obtain ⟨lq2, cq2, rfl, _, _⟩ := Own.sized (h := hO4)
          have hF : LgAt W0 (w4.setCell ⟨l, 3, none⟩ (.slice lq2 vs2.length cq2)) l d D2 s2 (secsB recs2).length recs2 false L := by
            refine ⟨by rw [Hklen.out]; exact H6.out, hs1, by rw [Hklen.out, Hhf.out]; exact Hfit.out, .slice lq2 vs2.length cq2, vs2, M2, (DkAt.onSet (h := hA5) 3 (.slice lq2 vs2.length cq2)).sub ?_, hL4⟩
            have hsub : (M2 ++ L).Sublist (M2 ++ (rowV lv vs :: (M ++ (rowSecs (.slice a6 (secsB recs2).length c6) (secsB recs2) :: L)))) := List.Sublist.append_left ((List.sublist_append_of_sublist_right (List.sublist_cons_self _ _)).cons _) M2
            exact (hsub.cons_cons _).cons_cons _
          have HF := Lib.hid hF
          clear hA5 bf b0 b1 b2 b4 hO4 hL4 hF Hcp HA4
          go_wp2_with fail
          exact Hyes.out _ (by trivial) (by trivial) HF.out
        · have he' : (e2 != 0) = true := by simpa using he
          have hA5 : DkAt W0 w3 d D2 (rowLog l d side used lv true :: rowV lv vs :: (M ++ (rowSecs (.slice a6 (secsB recs2).length c6) (secsB recs2) :: L))) := by
            have := HA3.out
            rw [keptRow, if_neg he] at this
            exact this
          have HF := Lib.hid (show LgAt W0 w3 l d D2 side used recs true L from ⟨by rw [Hklen.out]; exact H6.out, hsd, by rw [Hklen.out]; exact hft.out, lv, vs, M, hA5.sub ((List.Sublist.append_left (List.sublist_cons_self _ _) M).cons_cons _ |>.cons_cons _), HL3.out⟩)
          have HE := Lib.hid he
          clear hA5 he
          go_wp2_with fail
          exact Hbad.out _ (by trivial) HE.out HF.out
  · have h0' : (code != 0) = true := by simpa using h0
    go_wp2_with fail
    exact Hno.out _ h0 HA2.out
end Go.Proofs.YtlkgmhlaoahdlaaGreatDoor
end

/- What a sector is as a root, and whether it is one. -/
section
namespace Go.Proofs.YtlkgmhlaoahdlaaGreatDoor
open Go.RowKit
set_option linter.unusedVariables false
set_option linter.unusedSimpArgs false

/-! ### Sectors are compared -/
def byteSec (s : List Value) : Prop := ∀ v ∈ s, ∃ n : Int, v = .int .u8 n ∧ (Lit.int .u8 n).wf = true
theorem byteSec_bs (l : List Int) (h : Byts l) : byteSec (bs l) := by
  intro v hv
  obtain ⟨z, hz, rfl⟩ := List.mem_map.1 hv
  have h1 : IntKind.u8.min = 0 := rfl
  have h2 : IntKind.u8.max = 255 := rfl
  have := h z hz
  exact ⟨z, rfl, by simp only [Lit.wf, Bool.and_eq_true, decide_eq_true_eq]; omega⟩
theorem keyT : Tryz.prog.keyTypeAt 2 111 = true := by kernel_rfl
theorem cellsS : Tryz.prog.cellsOf 111 = 64 := by kernel_rfl
theorem cellsB : Tryz.prog.cellsOf 5 = 1 := by kernel_rfl
theorem mapM_lits (s : List Value) (hs : byteSec s) (d : Nat) : ∀ n, n ≤ s.length → ((List.range n).mapM fun i => Tryz.prog.keyLits (d + 1) 5 ((s.drop (i * 1)).take 1)) = some ((List.range n).map fun i => [Lit.int .u8 (intOf (s.getD i undef))]) := by
  intro n hn
  refine Go.ChangeShapes.mapM_range_of n fun i hi => ?_
  have hi' : i < s.length := by omega
  obtain ⟨m, hm, hw⟩ := hs s[i] (List.getElem_mem _)
  have e : (s.drop (i * 1)).take 1 = [s[i]] := by
    rw [Nat.mul_one, List.drop_eq_getElem_cons hi']; rfl
  rw [e, hm]
  unfold Program.keyLits
  rw [Tryz.underlying5]
  simp only [hw, and_self, if_true, List.getD_eq_getElem?_getD, List.getElem?_eq_getElem hi', Option.getD_some, hm, intOf]
theorem flat_single {α β : Type} (f : α → β) : ∀ l : List α, (l.map fun i => [f i]).flatten = l.map f
  | [] => rfl
  | a :: l => by rw [List.map_cons, List.flatten_cons, flat_single f l]; rfl
theorem lits_of (s : List Value) (hs : byteSec s) (h64 : s.length = 64) : Tryz.prog.keyLits 2 111 s = some ((List.range 64).map fun i => Lit.int .u8 (intOf (s.getD i undef))) := by
  rw [← flat_single]
  unfold Program.keyLits
  rw [Tryz.underlying111]
  simp only [cellsS, h64, if_true]
  rw [cellsB, mapM_lits s hs 0 64 (by omega)]
  rfl
theorem eqSec (a b : List Int) (ha : Byts a) (hb : Byts b) (la : a.length = 64) (lb : b.length = 64) (w : World) : (Op.equalIn 10000 111 (.agg (bs a).toArray) (.agg (bs b).toArray)).run Tryz.prog w = .ok (decide (a = b)) w := by
  have hf : ∀ s : List Value, s.length = 64 → (Value.agg s.toArray).formed Tryz.prog 111 = true := by
    intro s h64
    unfold Value.formed
    rw [Tryz.underlying111]
    simp [cellsS, h64]
  have la' : (bs a).length = 64 := by rw [bs_length, la]
  have lb' : (bs b).length = 64 := by rw [bs_length, lb]
  obtain ⟨r, hr, hiff⟩ := run_equalIn_deep 9998 2 111 keyT w 2 2 _ _ _ _ (hf (bs a) la') (hf (bs b) lb') (by simpa [Value.cells] using lits_of (bs a) (byteSec_bs a ha) la') (by simpa [Value.cells] using lits_of (bs b) (byteSec_bs b hb) lb')
  have e : r = decide (a = b) := by
    rw [Bool.eq_iff_iff, hiff, decide_eq_true_iff]
    constructor
    · intro h
      apply List.ext_getElem (by omega)
      intro i h1 h2
      have := congrArg (fun l => l[i]?) h
      simp [la] at this
      have h64 : i < 64 := by omega
      simp [h64, h1, h2, bs, intOf] at this
      exact this
    · rintro rfl; rfl
  rw [e] at hr
  exact hr
theorem eqSec_ne (a b : List Int) (ha : Byts a) (hb : Byts b) (la : a.length = 64) (lb : b.length = 64) (he : a ≠ b) (w : World) : (Op.equalIn 10000 111 (.agg (bs a).toArray) (.agg (bs b).toArray)).run Tryz.prog w = .ok false w := by
  rw [eqSec a b ha hb la lb w, decide_eq_false he]

/-! ### A sector is taken apart -/
theorem Own.secBy {W0 : Base} {w : World} {g : Nat} {z : List Int} {L : List Rw} (h : Own W0 w L) (hm : rowSec g (bs z) ∈ L) (hl : z.length = 64) (hz : Byts z) : By w (.slice (some ⟨g, 0, none⟩) 64 64) z := by
  obtain ⟨r1, _⟩ := sec_cells h hm (by rw [bs_length, hl])
  refine ⟨?_, hz, _, 64, by rw [hl], by omega, by unfold maxLen; decide⟩
  rw [hl]
  refine .inr ⟨_, 64, rfl, fun j u hj => ?_, bs_one _⟩
  rw [Addr.add_mid]
  exact r1 j u hj
theorem rootOf_facts {W0 : Base} {wB : World} {H H6 r : Nat} {v v3 : Value} {z : List Int} {zv : List Value} {side used : Int} (hO : Own W0 wB (rowRoot H6 side used :: rowR r v false :: (rowU v3 z :: [rowRoot (H + 1) 0 0, rowSec H zv]))) (hzl : zv.length = 64) :
    okSec wB (.pointer (some ⟨H, 0, none⟩)) ∧ secOf wB (.pointer (some ⟨H, 0, none⟩)) = .agg zv.toArray ∧ wB.cell? ⟨H + 1, 0, none⟩ = some (.int .i64 0) ∧ wB.cell? ⟨H + 1, 1, none⟩ = some (.int .i64 0) ∧ wB.frozen? ⟨H + 1, 0, none⟩ = false ∧ wB.frozen? ⟨H + 1, 1, none⟩ = false ∧
    okSec ((wB.setCell ⟨H + 1, 0, none⟩ (.int .i64 side)).setCell ⟨H + 1, 1, none⟩ (.int .i64 used)) (.pointer (some ⟨H, 0, none⟩)) ∧ secOf ((wB.setCell ⟨H + 1, 0, none⟩ (.int .i64 side)).setCell ⟨H + 1, 1, none⟩ (.int .i64 used)) (.pointer (some ⟨H, 0, none⟩)) = .agg zv.toArray ∧
    ((wB.setCell ⟨H + 1, 0, none⟩ (.int .i64 side)).setCell ⟨H + 1, 1, none⟩ (.int .i64 used)).rangeAt (H + 1) 0 [.int .i64 side, .int .i64 used] ∧ Below W0.world.heap.size W0.world ((wB.setCell ⟨H + 1, 0, none⟩ (.int .i64 side)).setCell ⟨H + 1, 1, none⟩ (.int .i64 used)) := by
  obtain ⟨ra, _⟩ := sec_cells hO (g := H) (s := zv) (by simp) hzl
  obtain ⟨b0, b1⟩ := root_cells hO (g := H + 1) (a := 0) (b := 0) (by simp)
  have h1 := hO.only (show rowRoot (H + 1) 0 0 ∈ _ by simp)
  have hp : Own W0 wB (rowRoot (H + 1) 0 0 :: [rowSec H zv, rowRoot H6 side used, rowR r v false, rowU v3 z]) := hO.perm (by
    have h2 := List.perm_append_comm (l₁ := [rowRoot H6 side used, rowR r v false, rowU v3 z]) (l₂ := [rowRoot (H + 1) 0 0, rowSec H zv])
    exact h2)
  have hC : Own W0 ((wB.setCell ⟨H + 1, 0, none⟩ (.int .i64 side)).setCell ⟨H + 1, 1, none⟩ (.int .i64 used)) (rowRoot (H + 1) side used :: [rowSec H zv, rowRoot H6 side used, rowR r v false, rowU v3 z]) := Own.set (h := (Own.set (h := hp) 0 (.int .i64 side))) 1 (.int .i64 used)
  obtain ⟨rc, _⟩ := sec_cells hC (g := H) (s := zv) (by simp) hzl
  have hr : ((wB.setCell ⟨H + 1, 0, none⟩ (.int .i64 side)).setCell ⟨H + 1, 1, none⟩ (.int .i64 used)).rangeAt (H + 1) 0 [.int .i64 side, .int .i64 used] := by
    have := Own.range (h := hC) 0 2
    exact this
  exact ⟨(sec_is ra hzl).1, (sec_is ra hzl).2, b0, b1, Own.free (h := h1) 0, Own.free (h := h1) 1, (sec_is rc hzl).1, (sec_is rc hzl).2, hr, hC.below⟩
attribute [local go_sem ↓] wp_load_sec Go.wp_at_zero Go.wp_at_succ

set_option maxHeartbeats 3200000 in
set_option maxRecDepth 100000 in
theorem rootOf_any (z : List Int) (hz : Byts z) (hl : z.length = 64) (h1 : isSized z 11) (side used : Nat) (h2 : 4 ≤ (restOf z).length) (h2' : num4 (restOf z) = side) (h3 : 4 ≤ ((restOf z).drop 4).length) (h3' : num4 ((restOf z).drop 4) = used) (hs : side ≤ 1) (hu : used ≤ 4096) (w : World) :
    Calls Tryz.prog 45 #[.agg (bs z).toArray] w fun e w' => e = .returned (.tuple #[.agg #[.int .i64 side, .int .i64 used], .bool (decide (z = rootB side used))]) ∧ Below w.heap.size w w' := by
  have hzr := zero_root
  have hl' : (bs z).length = 64 := by rw [bs_length, hl]
  have hO := ((Own.start w).sec (bs z) hl' w.heap.size rfl).root 0 0
  have HO := Lib.hid (show Own w _ [rowRoot (w.heap.size + 1) 0 0, rowSec w.heap.size (bs z)] by simpa using hO)
  have Hz := Lib.hid hz
  have Hl := Lib.hid hl
  have Hl' := Lib.hid hl'
  have H1 := Lib.hid h1
  have H2 := Lib.hid (show 4 ≤ (restOf z).length ∧ num4 (restOf z) ≤ 1 from ⟨h2, by rw [h2']; omega⟩)
  have H2' := Lib.hid h2'
  have H3 := Lib.hid (show 4 ≤ ((restOf z).drop 4).length ∧ num4 ((restOf z).drop 4) ≤ 4096 from ⟨h3, by rw [h3']; omega⟩)
  have H3' := Lib.hid h3'
  have hEq := eqSec z (rootB side used) hz (rootB_byts side used hs hu) hl (rootB_length side used)
  have HEq := Lib.hid hEq
  have h64 : z.length ≤ 140737488355328 := by omega
  have H64 := Lib.hid h64
  clear hO hz hl hl' h1 h2 h2' h3 h3' hEq h64
  go_enter Tryz.func45, Tryz.ntmps45
  go_wp2_with fail
  refine (rread_any (.slice (some ⟨w.heap.size, 0, none⟩) 64 64) z _ (HO.out.secBy (by simp) Hl.out Hz.out) H64.out).mono ?_
  rintro e w3 ⟨r, v3, rfl, hO3, hp3⟩
  have HO3 := Lib.hid (HO.out.join hO3)
  have HP3 := Lib.hid (hp3.mono (fun x hx => by rw [List.mem_singleton.1 hx]; exact List.mem_cons_self ..) : Pc (rowU v3 z :: [rowRoot (w.heap.size + 1) 0 0, rowSec w.heap.size (bs z)]) v3 z)
  clear hO3 hp3 HO
  go_wp2_with fail
  refine (rtext_yes w w3 r v3 false _ z 11 HO3.out HP3.out H1.out).mono ?_
  rintro e w4 ⟨v4, rfl, hO4, hp4⟩
  have HO4 := Lib.hid hO4
  have HP4 := Lib.hid hp4
  clear hO4 hp4 HO3 HP3
  go_wp2_with fail
  refine (rnum_any w w4 r v4 false _ (restOf z) 1 HO4.out HP4.out H2.out).mono ?_
  rintro e w5 ⟨v5, rfl, hO5, hp5⟩
  rw [H2'.out]
  have HO5 := Lib.hid hO5
  have HP5 := Lib.hid hp5
  clear hO5 hp5 HO4 HP4
  go_wp2_with fail
  refine (rnum_any w w5 r v5 false _ ((restOf z).drop 4) 4096 HO5.out HP5.out H3.out).mono ?_
  rintro e w6 ⟨v6, rfl, hO6, hp6⟩
  rw [H3'.out]
  have HO6 := Lib.hid hO6
  clear hO6 hp6 HO5 HP5
  go_wp2_with fail
  have HOA := Lib.hid (HO6.out.root side used)
  have hEq := HEq.out
  have hzl := Hl'.out
  clear HO6
  generalize hH6 : w6.heap.size = H6 at *
  have HH6 := Lib.hid hH6
  clear hH6
  generalize w6.alloc (.cells #[.int .i64 (side : Int), .int .i64 (used : Int)] 115) = wA at *
  obtain ⟨H, hH⟩ : ∃ H, w.heap.size = H := ⟨_, rfl⟩
  rw [hH] at HOA ⊢
  obtain ⟨a0, a1⟩ := root_cells HOA.out (g := H6) (a := side) (b := used) (by simp)
  obtain ⟨ra, _⟩ := sec_cells HOA.out (g := H) (s := bs z) (by simp) hzl
  have qa1 := (sec_is (w := wA) ra hzl).1
  have qa2 := (sec_is (w := wA) ra hzl).2
  have qb1 : okSec wA.drew (.pointer (some ⟨H, 0, none⟩)) := (sec_is (w := wA.drew) ra hzl).1
  have qb2 : secOf wA.drew (.pointer (some ⟨H, 0, none⟩)) = .agg (bs z).toArray := (sec_is (w := wA.drew) ra hzl).2
  have HH := Lib.hid hH
  clear ra hH
  obtain ⟨zv, hzv⟩ : ∃ zv, bs z = zv := ⟨_, rfl⟩
  obtain ⟨rb, hrb⟩ : ∃ rb, bs (rootB side used) = rb := ⟨_, rfl⟩
  have HZV := Lib.hid hzv
  have HRB := Lib.hid hrb
  rw [hzv] at hEq qa2 qb2 hzl HOA ⊢
  rw [hrb] at hEq
  clear hzv hrb
  obtain ⟨dec, hdec⟩ : ∃ dec, decide (z = rootB side used) = dec := ⟨_, rfl⟩
  rw [hdec] at hEq
  have HD := Lib.hid hdec
  clear hdec HEq
  have hir : (Tryz.prog.info? 115).map (·.size) = some [Value.int .i64 (side : Int), .int .i64 (used : Int)].length := info_root
  go_region_with (first
    | (go_at_call 74; refine (sector_any side used _ hs hu).mono ?_; rintro e w7 ⟨rfl, hb7⟩; rw [HRB.out]; (first | have hO7 := HOA.out.later hb7 | have hO7 := HOA.out.drew.later hb7); obtain ⟨e1, e2⟩ := root_cells hO7 (g := H6) (a := side) (b := used) (by simp); obtain ⟨k1, k2, k3, k4, k5, k6, k7, k8, k9, k10⟩ := rootOf_facts hO7 hzl; clear hb7))
  all_goals have HB := Lib.hid k10
  all_goals clear k1 k2 k3 k4 k5 k6 k7 k8 k10 hO7
  all_goals go_wp2_with fail
  all_goals refine bodyPost_ret (v := .tuple #[.agg [Value.int .i64 (side : Int), .int .i64 (used : Int)].toArray, .bool dec]) (ret_cell_tmp Tryz.results45 rfl rfl k9 Tryz.underlying115 rfl hir) rfl ?_
  all_goals exact ⟨by rw [HD.out], HB.out⟩
end Go.Proofs.YtlkgmhlaoahdlaaGreatDoor
end

/- What lies in sectors of a half, as bytes. -/
section
namespace Go.Proofs.YtlkgmhlaoahdlaaGreatDoor
open Go.RowKit
set_option linter.unusedVariables false
set_option linter.unusedSimpArgs false

theorem splice_app (C : List Value) : ∀ (A B : List Value), C.length ≤ B.length → splice (A ++ B) A.length C = A ++ (C ++ B.drop C.length) := by
  induction C with
  | nil => intro A B _; simp [splice]
  | cons c C ih =>
    intro A B h
    match B, h with
    | b :: B, h =>
      have e : (A ++ b :: B).set A.length c = (A ++ [c]) ++ B := by simp
      have := ih (A ++ [c]) B (by simpa using h)
      rw [splice, e]
      rw [List.length_append, List.length_singleton] at this
      rw [this]
      simp
def fillB (ss : List (List Int)) (i : Nat) : List Int := ((ss.take i).map (·.take 63)).flatten ++ List.replicate ((ss.length - i) * 63) 0
def bytesB (ss : List (List Int)) : List Int := (ss.map (·.take 63)).flatten
theorem take63_flat (ss : List (List Int)) (h : ∀ s ∈ ss, s.length = 64) : ((ss.map (·.take 63)).flatten).length = ss.length * 63 := by
  induction ss with
  | nil => rfl
  | cons s ss ih =>
    have hs := h s (by simp)
    rw [List.map_cons, List.flatten_cons, List.length_append, ih (fun t ht => h t (by simp [ht])), List.length_take, hs, List.length_cons]
    omega
theorem fillB_length (ss : List (List Int)) (h : ∀ s ∈ ss, s.length = 64) (i : Nat) (hi : i ≤ ss.length) : (fillB ss i).length = ss.length * 63 := by
  unfold fillB
  rw [List.length_append, take63_flat _ (fun s hs => h s (List.mem_of_mem_take hs)), List.length_take, List.length_replicate, Nat.min_eq_left hi, ← Nat.add_mul]
  congr 1
  omega
theorem fillB_all (ss : List (List Int)) : fillB ss ss.length = bytesB ss := by
  unfold fillB bytesB
  rw [List.take_length, Nat.sub_self, Nat.zero_mul, List.replicate_zero, List.append_nil]
theorem fillB_zero (ss : List (List Int)) : fillB ss 0 = List.replicate (ss.length * 63) 0 := by
  unfold fillB
  simp
theorem fillB_byts (ss : List (List Int)) (h : ∀ s ∈ ss, Byts s) (i : Nat) : Byts (fillB ss i) := by
  refine Byts.append (fun z hz => ?_) (zeros_byts _)
  obtain ⟨l, hl, hz⟩ := List.mem_flatten.1 hz
  obtain ⟨s, hs, rfl⟩ := List.mem_map.1 hl
  exact h s (List.mem_of_mem_take hs) z (List.mem_of_mem_take hz)
theorem fillB_step (ss : List (List Int)) (h : ∀ s ∈ ss, s.length = 64) (i : Nat) (hi : i < ss.length) : splice (bs (fillB ss i)) (i * 63) (bs (ss[i].take 63)) = bs (fillB ss (i + 1)) := by
  unfold fillB
  have hA : (((ss.take i).map (·.take 63)).flatten).length = i * 63 := by
    rw [take63_flat _ (fun s hs => h s (List.mem_of_mem_take hs)), List.length_take, Nat.min_eq_left (by omega)]
  have hs := h _ (List.getElem_mem hi)
  rw [bs_append]
  have := splice_app (bs (ss[i].take 63)) (bs (((ss.take i).map (·.take 63)).flatten)) (bs (List.replicate ((ss.length - i) * 63) 0)) (by
    rw [bs_length, bs_length, List.length_take, List.length_replicate, hs]; omega)
  rw [bs_length, hA] at this
  rw [this, List.take_succ_eq_append_getElem hi, List.map_append, List.flatten_append]
  simp only [List.map_cons, List.map_nil, List.flatten_cons, List.flatten_nil, List.append_nil]
  rw [List.append_assoc, bs_append, bs_append]
  congr 2
  rw [bs_length, List.length_take, hs]
  show List.drop _ (List.map _ (List.replicate _ 0)) = List.map _ (List.replicate _ 0)
  rw [List.map_replicate, List.map_replicate, List.drop_replicate]
  congr 1
  have h2 : ss.length - i = (ss.length - (i + 1)) + 1 := by omega
  rw [h2, Nat.succ_mul]
  omega

/-! The store of a sector into a variable, as a rule for a region that draws its order. -/
def okSt (w : World) (x y : Value) : Prop := ∃ (b : Nat) (s : List Value), x = .pointer (some ⟨b, 0, none⟩) ∧ y = .agg s.toArray ∧ isSec s ∧ w.there b 0 64
def stW (w : World) (x y : Value) : World := match x with
  | .pointer (some ⟨b, o, _⟩) => w.setCells b o y.cells.toList
  | _ => w
theorem wp_store_sec {dd : Option Tmp} {x y : Operand} {ty : TypeId} {ps : String} {af : Array Edge} {gd : Option (Nat × Bool)} {a : Act} {w : World} {K : Act → World → Prop} {Q : Exit → Act → World → Prop} (h : okSt w (a.eval x) (a.eval y)) :
    Oper.wp Tryz.prog ⟨dd, .store 111 x y, ty, ps, af, gd⟩ a w K Q = K (a.put dd undef) (stW w (a.eval x) (a.eval y)) := by
  obtain ⟨b, s, hx, hy, hs, ht⟩ := h
  have hr := run_storeAt_mid (P := Tryz.prog) w b 0 111 s.toArray (by simpa [hs.1] using ht) (by simpa [hs.1] using info_sector) (all_oneCell_toArray hs.2)
  unfold Oper.wp execOp
  simp only [hx, hy, Sem.run_bind, hr, Result.andThen_ok, Sem.run_pure]
  rfl
theorem zeros_cells (n : Nat) : (madeCells #[Value.int .u8 0] n).toList = bs (List.replicate n 0) := by
  apply List.ext_getElem?
  intro q
  simp only [madeCells, Array.toList_map, List.getElem?_map, Array.toList_range, bs, List.map_replicate]
  by_cases hq : q < n
  · rw [List.getElem?_range hq, List.getElem?_replicate, if_pos hq]
    simp [Nat.mod_one]
  · rw [List.getElem?_eq_none (by simp; omega), List.getElem?_replicate, if_neg hq]; rfl
theorem makeB (n : Nat) (hn : n ≤ 1000000) (W : World) : Sem.run Tryz.prog (Instr.makeSlice 61 (.int .i64 (n : Int)) (.int .i64 (n : Int))) W = .ok (.slice (some ⟨W.heap.size, 0, none⟩) n n) (W.alloc (.cells (madeCells #[.int .u8 0] n) 5)) := by
  obtain ⟨i0, hi, hz0, hz1, hz2⟩ := info_parts info_u
  have hr := run_make (P := Tryz.prog) W 61 5 i0 (.int .u8 0) Tryz.underlying61 hi hz0 .i64 .i64 (n : Int) (n : Int) (by omega) (Int.le_refl _) (by rw [hz2]; omega) (by omega)
  rw [hz1, Int.toNat_natCast, Nat.mul_one] at hr
  exact hr
theorem Own.zerosN {W0 : Base} {w : World} {L : List Rw} (h : Own W0 w L) (n : Nat) (hn : n ≤ 1000000) : Own W0 (w.alloc (.cells (madeCells #[.int .u8 0] n) 5)) (⟨5, 1, .slice (some ⟨w.heap.size, 0, none⟩) n n, n, bs (List.replicate n 0)⟩ :: L) := by
  have := h.made 5 1 (madeCells #[.int .u8 0] n) n (by rw [size_madeCells, Nat.mul_one]) (by unfold maxLen; omega)
  rw [zeros_cells] at this
  exact this
/-- The state behind a sector that was read into a variable: whether its place was made ahead of the call, or behind it. -/
theorem st_ahead {W0 : Base} {w : World} {H : Nat} {s : List Value} {L : List Rw} (h : Own W0 w (rowSec H zSec :: L)) (hs : isSec s) : okSt w (.pointer (some ⟨H, 0, none⟩)) (.agg s.toArray) ∧ ∃ wF, stW w (.pointer (some ⟨H, 0, none⟩)) (.agg s.toArray) = wF ∧ Own W0 wF (rowSec H s :: L) := by
  obtain ⟨_, t2⟩ := sec_cells h (g := H) (s := zSec) (List.mem_cons_self ..) rfl
  refine ⟨⟨H, s, rfl, rfl, hs, t2⟩, _, rfl, ?_⟩
  have h2 := Own.setCells (h := h) s 0
  rw [splice_all' zSec s (by rw [hs.1]; rfl)] at h2
  exact h2
theorem By.head {w : World} {g o n c : Nat} {zs : List Int} (h : By w (.slice (some ⟨g, o, none⟩) n c) zs) (k : Nat) (hk : k ≤ zs.length) : By w (.slice (some ⟨g, o, none⟩) k c) (zs.take k) := by
  have hl : (zs.take k).length = k := by rw [List.length_take]; omega
  obtain ⟨a, c', hv, h1, h2⟩ := h.2.2
  injection hv with e1 e2 e3
  subst e3
  refine ⟨?_, h.2.1.take k, _, c, by rw [hl], by omega, h2⟩
  rw [hl]
  refine .inr ⟨_, c, rfl, fun j u hj => ?_, bs_one _⟩
  have hlt : j < k := by
    rcases Nat.lt_or_ge j k with h3 | h3
    · exact h3
    · rw [List.getElem?_eq_none (by rw [bs_length, hl]; exact h3)] at hj; cases hj
  obtain ⟨g', o', c', hv', _, _, hc⟩ := h.cells (by omega)
  injection hv' with e1 e2 e3
  injection e1 with e1
  injection e1 with e1 e4
  subst e1 e4
  rw [Addr.add_mid, hc j (by omega), ← hj]
  simp [bs, List.getElem?_take, hlt, List.getElem?_eq_getElem (show j < zs.length by omega)]
attribute [local go_sem ↓] wp_store_sec Go.wp_at_zero Go.wp_at_succ

set_option maxHeartbeats 3200000 in
set_option maxRecDepth 100000 in
theorem bytes_any {W0 : Base} {w : World} {l d : Nat} {D : Dk} {side used : Nat} {lv : Value} {dead : Bool} {L : List Rw} (h : DkAt W0 w d D L) (hm : rowLog l d side used lv dead ∈ L) (h6 : 6 ≤ D.last.length) (hup : D.down = false) (hs : side ≤ 1) (x : Nat) (ss : List (List Int))
    (hx : x + ss.length ≤ 10000) (h64 : ∀ s ∈ ss, s.length = 64) (hby : ∀ s ∈ ss, Byts s) (hget : ∀ (i : Nat) (hi : i < ss.length), D.last[2 + side * ((D.last.length - 2) / 2) + (x + i)]? = some (bs ss[i])) :
    Calls Tryz.prog 126 #[.pointer (some ⟨l, 0, none⟩), .int .i64 x, .int .i64 ss.length] w fun e w' => ∃ g, e = .returned (.slice (some ⟨g, 0, none⟩) (ss.length * 63) (ss.length * 63)) ∧ Own w w' [⟨5, 1, .slice (some ⟨g, 0, none⟩) (ss.length * 63) (ss.length * 63), ss.length * 63, bs (bytesB ss)⟩] := by
  have hzs := zero_sector
  obtain ⟨N, hN⟩ : ∃ N, ss.length * 63 = N := ⟨_, rfl⟩
  have hNb : N ≤ 630000 := by omega
  have hmk := makeB N (by omega)
  have hmul : (ss.length : Int) * 63 = (N : Int) := by omega
  have h0 := (Own.start w).zerosN N (by omega)
  have Hstart := Lib.hid (show Own w _ [⟨5, 1, .slice (some ⟨w.heap.size, 0, none⟩) N N, N, bs (fillB ss 0)⟩] by rw [fillB_zero, hN]; exact h0)
  have H := Lib.hid h
  have Hm := Lib.hid hm
  have H6 := Lib.hid h6
  have Hup := Lib.hid hup
  have H64 := Lib.hid h64
  have Hby := Lib.hid hby
  have Hget := Lib.hid hget
  have HN := Lib.hid hN
  rw [hN]
  clear h0 h hm h6 hup h64 hby hget hN
  go_enter Tryz.func126, Tryz.ntmps126
  go_wp2_with fail
  generalize w.alloc (.cells (madeCells #[.int .u8 0] N) 5) = w1 at *
  generalize w.heap.size = g at *
  clear hmk
  go_loopw [15] (fun t wr => ∃ (i : Nat), i ≤ ss.length ∧ t = .int .i64 i ∧ Own w wr [⟨5, 1, .slice (some ⟨g, 0, none⟩) N N, N, bs (fillB ss i)⟩]) (fun t _ => ss.length - (intOf t).toNat)
  case atStart => exact ⟨0, Nat.zero_le _, rfl, Hstart.out⟩
  case round =>
    obtain ⟨i, hi, rfl, hO⟩ := hrel
    by_cases hlt : i < ss.length
    · have hA := H.out.later hO.below
      obtain ⟨c0, c1, _, _, _⟩ := log_cells_mem hA Hm.out
      have hl : l < wr.heap.size := World.block_lt_of_cell? wr _ c0
      have hw1 : IntKind.i64.wrap ((x : Int) + (i : Int)) = ((x + i : Nat) : Int) := by rw [IntWalk.i64_in _ (by omega)]; omega
      obtain ⟨q, hq⟩ : ∃ q, x + i = q := ⟨_, rfl⟩
      rw [hq] at hw1
      have hq1 : q ≤ 100000 := by omega
      have hpl : ∀ W, DkAt W0 W d D L → Calls Tryz.prog 79 #[.pointer (some ⟨l, 0, none⟩), .int .i64 side, .int .i64 q] W fun e w' => e = .returned (.int .i64 ((2 + side * ((D.last.length - 2) / 2) + q : Nat) : Int)) ∧ W = w' := by
        intro W hW
        obtain ⟨L1, L2, hL⟩ := List.append_of_mem Hm.out
        rw [hL] at hW
        exact place_dk (hW.perm List.perm_middle) H6.out side q hs hq1
      have hgi := Hget.out i hlt
      rw [hq] at hgi
      obtain ⟨pl, hpleq⟩ : ∃ pl, 2 + side * ((D.last.length - 2) / 2) + q = pl := ⟨_, rfl⟩
      rw [hpleq] at hgi hpl
      have hsl := H64.out _ (List.getElem_mem hlt)
      have hsb := Hby.out _ (List.getElem_mem hlt)
      have hstep := fillB_step ss H64.out i hlt
      have hplt : pl < D.last.length := by
        rcases Nat.lt_or_ge pl D.last.length with h1 | h1
        · exact h1
        · rw [List.getElem?_eq_none h1] at hgi; cases hgi
      have hrd : (readM D (pl : Int)).1 = bs ss[i] ∧ (readM D (pl : Int)).2 = 0 := by
        have hr0 : refusedM D (pl : Int) = 0 := by unfold refusedM; rw [Hup.out, if_neg (by decide), if_neg (by omega)]
        unfold readM
        rw [hr0]
        refine ⟨?_, rfl⟩
        show D.last.getD pl [] = _
        rw [List.getD_eq_getElem?_getD, hgi]; rfl
      have Hrd := Lib.hid hrd
      have Hpl := Lib.hid hpl
      have Hstep := Lib.hid hstep
      have Hsl := Lib.hid hsl
      have Hsb := Lib.hid hsb
      have HA := Lib.hid hA
      have HO := Lib.hid hO
      have hsec := isSec_bs ss[i] hsl
      have Hsec := Lib.hid hsec
      clear hrd hpl hstep hsl hsb hA hO hgi hplt hsec hq hpleq
      generalize ss[i] = z at *
      obtain ⟨zv, hzv⟩ : ∃ zv, bs z = zv := ⟨_, rfl⟩
      rw [hzv] at Hrd Hsec
      have HZV := Lib.hid hzv
      clear hzv
      go_upto_region 5 with (fail)
      go_cut [9] (fun s wc => ∃ H, s = .pointer (some ⟨H, 0, none⟩) ∧ Own w wc (rowSec H zv :: [⟨5, 1, .slice (some ⟨g, 0, none⟩) N N, N, bs (fillB ss i)⟩]))
      case first =>
        go_region_with (first
          | (go_at_call 79; refine (Hpl.out _ (by first | exact HA.out | exact HA.out.drew | exact HA.out.alloc _ | exact (HA.out.alloc _).drew | exact HA.out.drew.alloc _)).mono ?_; rintro e w' ⟨rfl, rfl⟩)
          | (go_at_call 44; refine (read_any W0 _ d D L (pl : Int) (by first | exact HA.out | exact HA.out.drew | exact HA.out.alloc _ | exact (HA.out.alloc _).drew | exact HA.out.drew.alloc _)).mono ?_; rintro e w7 ⟨rfl, hb7⟩; rw [Hrd.out.1, Hrd.out.2]; (first | have hO7 := (HO.out.sec zSec rfl wr.heap.size rfl).drew.later hb7 | have hO7 := (HO.out.sec zSec rfl wr.heap.size rfl).later hb7 | have hO7 := (HO.out.drew.later hb7).sec zSec rfl w7.heap.size rfl | have hO7 := (HO.out.later hb7).sec zSec rfl w7.heap.size rfl); obtain ⟨qk, wF, qs, hF⟩ := st_ahead hO7 Hsec.out; have HF := Lib.hid hF; clear hb7 hO7 hF))
        all_goals (go_wp2_with fail; go_meet; exact ⟨_, rfl, HF.out⟩)
      case rest =>
        obtain ⟨H9, rfl, hO9⟩ := hcut
        rw [← HZV.out] at hO9
        have HSW := Lib.hid hO9.swap
        have hy := (hO9.secBy (g := H9) (z := z) (List.mem_cons_self ..) Hsl.out Hsb.out).head 63 (by rw [Hsl.out]; decide)
        have HY := Lib.hid hy
        have hz63 : (z.take 63).length = 63 := by rw [List.length_take, Hsl.out]; rfl
        have HZ63 := Lib.hid hz63
        have hN1 : i * 63 + 63 ≤ N := by have := HN.out; omega
        obtain ⟨q63, hq63⟩ : ∃ q63, i * 63 = q63 := ⟨_, rfl⟩
        have Hq63 := Lib.hid hq63
        rw [hq63] at hN1 Hstep
        have hq0 : (0 : Int) ≤ (q63 : Int) := by omega
        have hNq : ¬ N = q63 := by omega
        have hq9 : (q63 : Int) ≤ (N : Int) := by omega
        have hw63 : IntKind.i64.wrap ((i : Int) * 63) = (q63 : Int) := by rw [IntWalk.i64_in _ (by omega)]; omega
        obtain ⟨z63, hzz⟩ : ∃ z63, z.take 63 = z63 := ⟨_, rfl⟩
        rw [hzz] at HY HZ63 Hstep
        clear hO9 hy hz63 hq63 c0 c1 hl hw1 hzz
        go_upto_region 6 with (fail)
        go_region_held3 (fun _ => True) (exact trivial) (first
          | (refine step_copy_into (by rfl) (.tmp 39) (.tmp 40) 61 (by rfl) q63 (N - q63) (N - q63) (.slice (some ⟨H9, 0, none⟩) 63 64) z63 (by rfl) (by rfl) (by first | exact HSW.out.drew | exact HSW.out) 5 Tryz.underlying61 size_u (by first | exact HY.out.drew | exact HY.out) 63 (by rw [HZ63.out]; omega) (by omega) ?_; intro w8 hO8))
        have ht63 : z63.take 63 = z63 := List.take_of_length_le (by rw [HZ63.out]; exact Nat.le_refl _)
        rw [ht63, Hstep.out] at hO8
        have HO8 := Lib.hid (hO8.of_mem (.cons_cons _ (List.nil_sublist _)))
        clear hO8 ht63 hw63
        go_wp2_with fail
        exact ⟨⟨i + 1, by omega, by go_num, HO8.out⟩, by simp [intOf]; omega⟩
    · obtain rfl : i = ss.length := by omega
      rw [fillB_all] at hO
      have HO := Lib.hid hO
      clear hO
      go_wp2_with fail
      go_ret
      exact ⟨g, rfl, HO.out⟩
end Go.Proofs.YtlkgmhlaoahdlaaGreatDoor
end

/- The record that begins in a sector of the half. -/
section
namespace Go.Proofs.YtlkgmhlaoahdlaaGreatDoor
open Go.RowKit
set_option linter.unusedVariables false
set_option linter.unusedSimpArgs false

/-! ### A record's sectors as bytes: plain data -/
theorem flatG_get {α : Type} (k : Nat) : ∀ (L : List (List α)), (∀ s ∈ L, s.length = k) → ∀ (i j : Nat) (hi : i < L.length), j < k → L.flatten[i * k + j]? = (L[i])[j]?
  | [], _, i, j, hi, _ => by simp at hi
  | s :: L, h, 0, j, _, hj => by
    have hs := h s (by simp)
    rw [Nat.zero_mul, Nat.zero_add, List.flatten_cons, List.getElem?_append_left (by omega), List.getElem_cons_zero]
  | s :: L, h, i + 1, j, hi, hj => by
    have hs := h s (by simp)
    rw [List.flatten_cons, List.getElem_cons_succ, List.getElem?_append_right (by rw [Nat.succ_mul]; omega), show (i + 1) * k + j - s.length = i * k + j from by rw [Nat.succ_mul]; omega]
    exact flatG_get k L (fun t ht => h t (by simp [ht])) i j (by simpa using hi) hj
theorem cutB_get (R : List Int) (i j : Nat) (hj : j < 63) (hq : i * 63 + j < R.length) : (cutB R i)[j]? = R[i * 63 + j]? := by
  unfold cutB padTo
  rw [List.getElem?_append_left (by rw [List.length_take, List.length_drop]; omega), List.getElem?_take, if_pos hj, List.getElem?_drop]
theorem bytesB_get (b : List Int) (q : Nat) (hq : q < (recB b).length) : (bytesB (layB b))[q]? = (recB b)[q]? := by
  have hl := recB_length b
  have hr : q / 63 < roomM b.length := by unfold roomM; omega
  have h := flatG_get 63 ((layB b).map (·.take 63)) (fun s hs => by
    obtain ⟨t, ht, rfl⟩ := List.mem_map.1 hs
    rw [List.length_take, layB_64 b t ht]; rfl) (q / 63) (q % 63) (by rw [List.length_map, layB_length]; exact hr) (by omega)
  rw [show q / 63 * 63 + q % 63 = q from by omega, List.getElem_map, List.getElem?_take, if_pos (by omega)] at h
  unfold bytesB
  rw [h]
  have e : (layB b)[q / 63]'(by rw [layB_length]; exact hr) = cutB (recB b) (q / 63) := by simp [layB]
  rw [e, cutB_get _ _ _ (by omega) (by omega), show q / 63 * 63 + q % 63 = q from by omega]
theorem first_get (b : List Int) (q : Nat) (hq : q < 16) : ((cutB (recB b) 0).take 63)[q]? = (recB b)[q]? := by
  have hl := recB_length b
  rw [List.getElem?_take, if_pos (by omega), cutB_get _ _ _ (by omega) (by omega), Nat.zero_mul, Nat.zero_add]
theorem num4_alike (z r : List Int) (k : Nat) (h : ∀ j, j < 4 → z[k + j]? = r[k + j]?) : num4 (z.drop k) = num4 (r.drop k) := by
  unfold num4
  have h0 := h 0 (by omega)
  have h1 := h 1 (by omega)
  have h2 := h 2 (by omega)
  have h3 := h 3 (by omega)
  simp only [List.getD_eq_getElem?_getD, List.getElem?_drop]
  rw [h0, h1, h2, h3]
theorem num4_le4 (n : Int) (h0 : 0 ≤ n) (h1 : n < 4294967296) (l : List Int) : num4 (le4 n ++ l) = n := by
  unfold num4 le4
  simp
  omega
def zed (b : List Int) : List Int := (cutB (recB b) 0).take 63
theorem zed_length (b : List Int) : (zed b).length = 63 := by unfold zed; rw [List.length_take, cutB_length]; rfl
theorem zed_num (b : List Int) (hl : b.length ≤ 4096) : num4 (zed b) = crcI b ∧ num4 ((zed b).drop 4) = 0 ∧ num4 ((zed b).drop 8) = 0 ∧ num4 ((zed b).drop 12) = b.length := by
  have h : ∀ k, k ≤ 12 → num4 ((zed b).drop k) = num4 ((recB b).drop k) := fun k hk => num4_alike _ _ k fun j hj => first_get b (k + j) (by omega)
  have h0 := h 0 (by omega)
  rw [List.drop_zero, List.drop_zero] at h0
  have hc := crcI_bounds b
  refine ⟨by rw [h0]; exact num4_le4 _ hc.1 hc.2 _, ?_, ?_, ?_⟩
  · rw [h 4 (by omega)]; rfl
  · rw [h 8 (by omega)]; rfl
  · rw [h 12 (by omega)]
    exact num4_le4 _ (by omega) (by omega) b
theorem rec_body (b : List Int) : b = ((bytesB (layB b)).drop 16).take b.length := by
  have hl := recB_length b
  have hr : roomM b.length * 63 ≥ b.length + 16 := by unfold roomM; omega
  apply List.ext_getElem?
  intro j
  by_cases hj : j < b.length
  · rw [List.getElem?_take, if_pos hj, List.getElem?_drop, bytesB_get b (16 + j) (by omega)]
    unfold recB sizedL
    rw [List.getElem?_append_right (by simp [le4]; omega), List.getElem?_append_right (by simp [le4]; omega), List.getElem?_append_right (by simp [le4]; omega)]
    congr 1
    simp [le4]
    omega
  · rw [List.getElem?_eq_none (by omega), List.getElem?_eq_none (by rw [List.length_take]; omega)]
theorem bytesB_length (b : List Int) : (bytesB (layB b)).length = roomM b.length * 63 := by
  unfold bytesB
  rw [take63_flat _ (layB_64 b), layB_length]
theorem layB_zero (b : List Int) : bytesB [cutB (recB b) 0] = zed b := by simp [bytesB, zed]

set_option maxHeartbeats 3200000 in
set_option maxRecDepth 100000 in
theorem record_any {W0 : Base} {w : World} {l d : Nat} {D : Dk} {side used : Nat} {lv : Value} {dead : Bool} {L : List Rw} (h : DkAt W0 w d D L) (hm : rowLog l d side used lv dead ∈ L) (h6 : 6 ≤ D.last.length) (hup : D.down = false) (hs : side ≤ 1) (x : Nat) (b : List Int)
    (hb : Byts b) (hl : b.length ≤ 4096) (hx : x + roomM b.length ≤ used) (hu : used ≤ 4096) (hget : ∀ (i : Nat), i < roomM b.length → D.last[2 + side * ((D.last.length - 2) / 2) + (x + i)]? = some (bs (cutB (recB b) i))) :
    Calls Tryz.prog 76 #[.pointer (some ⟨l, 0, none⟩), .int .i64 x] w fun e w' => ∃ v M, e = .returned (.tuple #[v, .bool true]) ∧ Own w w' M ∧ Pc M v b := by
  have hn4 : roomM b.length ≤ 66 := by unfold roomM; omega
  have hn1 : 1 ≤ roomM b.length := by unfold roomM; omega
  have hcb := crcI_bounds b
  have hrb := recB_byts b hb hl
  obtain ⟨z1, z2, z3, z4⟩ := zed_num b hl
  have hzl := zed_length b
  have hzb : Byts (zed b) := (cutB_byts _ _ hrb).take 63
  -- the first sector, and all of them, as bytes
  have hB1 := fun W (hW : DkAt W0 W d D L) => bytes_any hW hm h6 hup hs x [cutB (recB b) 0] (by simp; omega) (fun s hs => by rw [List.mem_singleton.1 hs]; exact cutB_length _ _) (fun s hs => by rw [List.mem_singleton.1 hs]; exact cutB_byts _ _ hrb) (fun i hi => by
    obtain rfl : i = 0 := by simpa using hi
    exact hget 0 (by omega))
  have hB2 := fun W (hW : DkAt W0 W d D L) => bytes_any hW hm h6 hup hs x (layB b) (by rw [layB_length]; omega) (layB_64 b) (fun s hs => (layB_sec b hb hl s hs).2) (fun i hi => by
    rw [layB_length] at hi
    rw [hget i hi]
    simp [layB])
  rw [layB_zero] at hB1
  rw [layB_length] at hB2
  simp only [List.length_singleton, Nat.one_mul] at hB1
  obtain ⟨n, hn⟩ : ∃ n, b.length = n := ⟨_, rfl⟩
  obtain ⟨R, hR⟩ : ∃ R, roomM n = R := ⟨_, rfl⟩
  rw [hn, hR] at hB2 hx hn4 hn1
  have hBl := bytesB_length b
  rw [hn, hR] at hBl
  have hbody := rec_body b
  rw [hn] at hbody
  have hRn : n + 16 ≤ R * 63 := by rw [← hR]; unfold roomM; omega
  have hbz2 : Byts (bytesB (layB b)) := fillB_all (layB b) ▸ fillB_byts (layB b) (fun s hs => (layB_sec b hb hl s hs).2) _
  obtain ⟨Y, hY⟩ : ∃ Y, bytesB (layB b) = Y := ⟨_, rfl⟩
  obtain ⟨Z, hZ⟩ : ∃ Z, zed b = Z := ⟨_, rfl⟩
  obtain ⟨cr, hcr⟩ : ∃ cr, crcI b = cr := ⟨_, rfl⟩
  rw [hY] at hB2 hBl hbody hbz2
  rw [hZ] at hB1 z1 z2 z3 z4 hzl hzb
  rw [hcr] at hcb z1
  rw [hn] at z4 hl
  have H := Lib.hid h
  have Hm := Lib.hid hm
  have HB1 := Lib.hid hB1
  have HB2 := Lib.hid hB2
  have Hn := Lib.hid hn
  have HR := Lib.hid hR
  have HBl := Lib.hid hBl
  have Hbody := Lib.hid hbody
  have Hbz2 := Lib.hid hbz2
  have Z1 := Lib.hid z1
  have Z2 := Lib.hid (show ∀ k, k < 2 → 4 ≤ (Z.drop (4 + 4 * k)).length ∧ num4 (Z.drop (4 + 4 * k)) = 0 from fun k hk => by
    rw [List.length_drop, hzl]
    rcases (show k = 0 ∨ k = 1 by omega) with rfl | rfl
    · exact ⟨by omega, z2⟩
    · exact ⟨by omega, z3⟩)
  have Z4 := Lib.hid z4
  have Hzl := Lib.hid hzl
  have Hzb := Lib.hid hzb
  have Hcr := Lib.hid hcr
  have Hb := Lib.hid hb
  have hcr0 := hcb.1
  have hcr1 := hcb.2
  clear h hm hB1 hB2 hn hR hBl hbody hbz2 z1 z2 z3 z4 hzl hzb hcr hb hcb hY hZ hget hrb hup h6
  go_enter Tryz.func76, Tryz.ntmps76
  go_wp2_with fail
  refine (HB1.out w H.out).mono ?_
  rintro e w1 ⟨g, rfl, hO1⟩
  have HO1 := Lib.hid hO1
  clear hO1
  go_wp2_with fail
  have hby1 : By w1 (.slice (some ⟨g, 0, none⟩) 63 63) Z := by
    have h1 := HO1.out
    rw [← Hzl.out] at h1 ⊢
    exact Own.by (show Own w w1 (rowU (.slice (some ⟨g, 0, none⟩) Z.length Z.length) Z :: []) from h1) Hzb.out
  refine (rread_any (.slice (some ⟨g, 0, none⟩) 63 63) Z w1 hby1 (by rw [Hzl.out]; decide)).mono ?_
  rintro e w2 ⟨r, v2, rfl, hO2, hp2⟩
  have HO2 := Lib.hid (show Own w w2 (rowR r v2 false :: [rowU v2 Z]) from (HO1.out.join hO2).of_mem (.cons_cons _ (.cons_cons _ (List.nil_sublist _))))
  have HP2 := Lib.hid hp2
  clear hO2 hp2 hby1 HO1
  go_wp2_with fail
  refine (rnum_any w w2 r v2 false _ Z 4294967295 HO2.out HP2.out ⟨by rw [Hzl.out]; decide, by rw [Z1.out]; omega⟩).mono ?_
  rintro e w3 ⟨v3, rfl, hO3, hp3⟩
  rw [Z1.out]
  have HO3 := Lib.hid hO3
  have HP3 := Lib.hid hp3
  clear hO3 hp3 HO2 HP2
  go_wp2_with fail
  go_loopw [16] (fun t wr => ∃ (k : Nat) (v : Value), k ≤ 2 ∧ t = .int .i64 k ∧ Own w wr (rowR r v false :: [rowU v2 Z]) ∧ Pc [rowU v2 Z] v (Z.drop (4 + 4 * k))) (fun t _ => 2 - (intOf t).toNat)
  case atStart => exact ⟨0, v3, by omega, rfl, HO3.out, HP3.out⟩
  case round =>
    obtain ⟨k, v, hk, rfl, hO, hp⟩ := hrel
    by_cases hlt : k < 2
    · have hz := Z2.out k hlt
      have HO := Lib.hid hO
      have HP := Lib.hid hp
      have Hz := Lib.hid hz
      clear hO hp hz
      go_wp2_with fail
      refine (rnum_any w wr r v false _ _ 0 HO.out HP.out ⟨Hz.out.1, by rw [Hz.out.2]; exact Int.le_refl _⟩).mono ?_
      rintro e w4 ⟨v4, rfl, hO4, hp4⟩
      rw [List.drop_drop] at hp4
      have HO4 := Lib.hid hO4
      have HP4 := Lib.hid (show Pc [rowU v2 Z] v4 (Z.drop (4 + 4 * (k + 1))) by rw [show 4 + 4 * (k + 1) = 4 + 4 * k + 4 from by omega]; exact hp4)
      clear hO4 hp4
      go_wp2_with fail
      exact ⟨⟨k + 1, v4, by omega, by go_num, HO4.out, HP4.out⟩, by simp [intOf]; omega⟩
    · obtain rfl : k = 2 := by omega
      have HO := Lib.hid hO
      have HP := Lib.hid (show Pc [rowU v2 Z] v (Z.drop 12) from hp)
      clear hO hp HO3 HP3
      go_wp2_with fail
      refine (rnum_any w wr r v false _ (Z.drop 12) 4096 HO.out HP.out ⟨by rw [List.length_drop, Hzl.out]; decide, by rw [Z4.out]; omega⟩).mono ?_
      rintro e w5 ⟨v5, rfl, hO5, hp5⟩
      rw [Z4.out]
      have HO5 := Lib.hid hO5
      clear hO5 hp5 HO HP
      go_wp2_with fail
      have hA5 := H.out.later HO5.out.below
      obtain ⟨_, _, c2, _, _⟩ := log_cells_mem hA5 Hm.out
      have Hgd := Lib.hid (show ∀ q, Calls Tryz.prog 127 #[.pointer (some ⟨r, 0, none⟩)] (w5.drewN q) fun e w' => e = .returned (.bool true) ∧ w' = w5.drewN q from fun q => (good_any w _ r v5 false _ HO5.out.drewN).mono fun e w' ⟨h1, h2⟩ => ⟨h1, h2.symm⟩)
      have Hrm := Lib.hid (show ∀ W, Calls Tryz.prog 77 #[.int .i64 (n : Int)] W fun e w' => e = .returned (.int .i64 (R : Int)) ∧ w' = W from fun W => (room_any n W (by omega)).mono fun e w' ⟨h1, h2⟩ => ⟨by rw [h1, HR.out], h2.symm⟩)
      obtain ⟨xr, hxr⟩ : ∃ xr, x + R = xr := ⟨_, rfl⟩
      have hwr : IntKind.i64.wrap ((x : Int) + (R : Int)) = (xr : Int) := by rw [IntWalk.i64_in _ (by omega)]; omega
      have hxu : ¬ (used : Int) < (xr : Int) := by omega
      have hxd : decide ((used : Int) < (xr : Int)) = false := by simp; omega
      clear hxr hA5
      go_quiet ((first
        | (go_at_call 127; exact Calls.quiet_of_same (Hgd.out _))
        | (go_at_call 77; exact Calls.quiet_of_same (Hrm.out _))))
      have HO6 := Lib.hid (HO5.out.drewN (n := nq))
      have HA6 := Lib.hid (H.out.later HO6.out.below)
      clear HO5 Hgd c2 hwr hxu hxd
      generalize w5.drewN nq = w6 at *
      obtain ⟨N, hN⟩ : ∃ N, R * 63 = N := ⟨_, rfl⟩
      rw [hN] at HB2 HBl hRn
      have hN16 : ¬ N = 16 := by omega
      have hNb : N ≤ 10000 := by omega
      clear hN
      go_wp2_with (go_at_call 77; refine (Hrm.out _).mono ?_; rintro e w' ⟨rfl, rfl⟩)
      refine (HB2.out _ HA6.out).mono ?_
      rintro e w7 ⟨g7, rfl, hO7⟩
      have HO7 := Lib.hid hO7
      clear hO7
      go_wp2_with fail
      have hp : Pc [⟨5, 1, .slice (some ⟨g7, 0, none⟩) N N, N, bs Y⟩] (.slice (some ⟨g7, 16, none⟩) n (N - 16)) b := by
        refine ⟨_, N - 16, by rw [Hn.out], by rw [Hn.out]; omega, by unfold maxLen; omega, Hb.out, .inr ⟨g7, 16, rfl, fun _ => ⟨N, Y, ?_, ?_, ?_⟩⟩⟩
        · unfold rowU
          rw [HBl.out]
          exact List.mem_singleton.2 rfl
        · rw [Hn.out, HBl.out]; omega
        · rw [Hn.out]; exact Hbody.out
      have Hp := Lib.hid hp
      have HY := Lib.hid (hp.by HO7.out)
      clear hp
      refine (sum_one _ _ (.slice (some ⟨g7, 16, none⟩) n (N - 16)) b _ (cell_made _ _ _ _ rfl) (HY.out.alloc _)).mono ?_
      rintro e w' ⟨rfl, rfl⟩
      rw [Hcr.out]
      have HF := Lib.hid ((HO6.out.join HO7.out).alloc (.cells #[.slice (some ⟨g7, 16, none⟩) n (N - 16)] 61))
      have hnn : 16 + n - 16 = n := by omega
      go_wp2_with fail
      go_ret2
      exact ⟨_, _, rfl, HF.out, (Hp.out.mono fun y hy => List.mem_append_left _ hy)⟩
end Go.Proofs.YtlkgmhlaoahdlaaGreatDoor
end

/- The records that a root counts are taken. -/
section
namespace Go.Proofs.YtlkgmhlaoahdlaaGreatDoor
open Go.RowKit
set_option linter.unusedVariables false
set_option linter.unusedSimpArgs false

theorem permJ (M : List Rw) (a b : Rw) (X : List Rw) : (M ++ (a :: b :: X)).Perm (b :: a :: (M ++ X)) :=
  List.perm_middle.trans ((List.perm_middle.cons a).trans (List.Perm.swap b a _))
theorem secsV_at (recs : List (List Int)) (k : Nat) (hk : k < recs.length) (j : Nat) (hj : j < roomM (recs[k]).length) : (secsV recs)[(secsB (recs.take k)).length + j]? = some (bs (cutB (recB recs[k]) j)) := by
  have e : recs = recs.take k ++ (recs[k] :: recs.drop (k + 1)) := by
    rw [← List.drop_eq_getElem_cons hk, List.take_append_drop]
  have e2 : secsV recs = secsV (recs.take k) ++ (secsV [recs[k]] ++ secsV (recs.drop (k + 1))) := by
    conv => lhs; rw [e]
    rw [secsV_append, show recs[k] :: recs.drop (k + 1) = [recs[k]] ++ recs.drop (k + 1) from rfl, secsV_append]
  rw [e2, List.getElem?_append_right (by rw [secsV_length]; omega), secsV_length, Nat.add_sub_cancel_left, List.getElem?_append_left (by rw [secsV_length, secsB_one, layB_length]; exact hj)]
  unfold secsV
  rw [secsB_one]
  simp [layB, hj]
theorem roomM_pos (n : Nat) : 1 ≤ roomM n := by unfold roomM; omega
theorem recs_le (recs : List (List Int)) : recs.length ≤ (secsB recs).length := by
  induction recs with
  | nil => simp
  | cons b r ih =>
    have h : secsB (b :: r) = layB b ++ secsB r := by simp [secsB]
    rw [h, List.length_append, layB_length, List.length_cons]
    have := roomM_pos b.length
    omega
theorem lo_end {W0 : Base} {w : World} {l d : Nat} {D : Dk} {side used n : Nat} {recs : List (List Int)} {v lv u : Value} {b : List Int} {vs : List Value} {M M2 L : List Rw} (hn : n = vs.length) (hA : DkAt W0 w d D (⟨61, 1, v, n + 1, vs ++ [u]⟩ :: rowLog l d side used lv false :: (M2 ++ (M ++ L)))) (hL : Lst M vs recs) (hp : Pc M2 u b)
    (h6 : 6 ≤ D.last.length) (hs : side ≤ 1) (hf : used ≤ (D.last.length - 2) / 2) : LgAt W0 (w.setCell ⟨l, 3, none⟩ v) l d D side used (recs ++ [b]) false L := by
  subst hn
  have h1 : DkAt W0 (w.setCell ⟨l, 3, none⟩ v) d D (rowLog l d side used v false :: ⟨61, 1, v, vs.length + 1, vs ++ [u]⟩ :: (M2 ++ (M ++ L))) := DkAt.onSet (h := hA.perm (perm2 _ _ _)) 3 v
  have e : (⟨61, 1, v, vs.length + 1, vs ++ [u]⟩ : Rw) = rowV v (vs ++ [u]) := by unfold rowV; rw [List.length_append]; rfl
  rw [e, ← List.append_assoc] at h1
  exact ⟨h6, hs, hf, v, vs ++ [u], M2 ++ M, h1, (hL.mono fun r hr => List.mem_append_right _ hr).push (hp.mono fun r hr => List.mem_append_left _ hr)⟩

set_option maxHeartbeats 3200000 in
set_option maxRecDepth 100000 in
theorem load_any {W0 : Base} {w : World} {l d : Nat} {D : Dk} {L : List Rw} {h side used : Nat} {recs : List (List Int)} (hA : DkAt W0 w d D (rowLog l d 0 0 (.slice none 0 0) false :: L)) (hup : D.down = false) (hH : Holds D.last h side used recs) :
    Calls Tryz.prog 46 #[.pointer (some ⟨l, 0, none⟩), .agg #[.int .i64 side, .int .i64 used]] w fun e w' => e = .returned (.int .i64 0) ∧ LgAt W0 w' l d D side used recs false L := by
  obtain ⟨i0, hi, hz0, hz1, hz2⟩ := info_parts info_v
  have hs := hH.sides
  have hfit := hH.fit
  have hm := hH.most
  have hh := hH.half
  have hh4 : h ≤ 4096 := by omega
  have h6 := hH.six
  have hu4 : used ≤ 4096 := by omega
  have hA1 : DkAt W0 (w.alloc (.cells #[.int .i64 (side : Int), .int .i64 (used : Int)] 115)) d D (rowLog l d 0 0 (.slice none 0 0) false :: rowRoot w.heap.size side used :: L) := by
    obtain ⟨R, h1, h2⟩ := hA.open
    exact (h2 _ (rowRoot w.heap.size side used :: rowLog l d 0 0 (.slice none 0 0) false :: L) ((h1.root side used).perm List.perm_middle.symm)).perm (List.Perm.swap _ _ _)
  have HA1 := Lib.hid hA1
  have H6 := Lib.hid h6
  have HH := Lib.hid hH
  have Hup := Lib.hid hup
  have Hh := Lib.hid hh
  have Hfit := Lib.hid (show used ≤ (D.last.length - 2) / 2 by rw [← hh]; exact hfit)
  obtain ⟨R1, hR1, hR2⟩ := hA1.open
  obtain ⟨b0, b1⟩ := root_cells hR1 (g := w.heap.size) (a := side) (b := used) (by simp)
  have hhalf := fun q : Nat => half_dk (hA1.drewN (n := q)) h6
  rw [← hh] at hhalf
  have Hhalf := Lib.hid hhalf
  have hgt : decide ((used : Int) > (h : Int)) = false := by simp; omega
  have hgt2 : decide ((h : Int) < (used : Int)) = false := by simp; omega
  clear hA hA1 hR1 hR2 R1 hhalf hup hH hh h6
  go_enter Tryz.func46, Tryz.ntmps46
  go_wp2_with fail
  generalize w.alloc (.cells #[.int .i64 (side : Int), .int .i64 (used : Int)] 115) = w1 at *
  generalize w.heap.size = H at *
  go_quiet ((go_at_call 75; exact Calls.quiet_of_same ((Hhalf.out _).mono fun e w' ⟨h1, h2⟩ => ⟨h1, h2.symm⟩)))
  have HA2 := Lib.hid (HA1.out.drewN (n := nq))
  clear HA1 Hhalf b0 b1 hgt hgt2
  generalize w1.drewN nq = w2 at *
  obtain ⟨c0, c1, c2, c3, c4, cf, cl⟩ := log_cells HA2.out
  have hown := HA2.out.own
  obtain ⟨b0, b1⟩ := root_cells hown (g := H) (a := side) (b := used) (by simp)
  have hr2 : w2.rangeAt H 0 [Value.int .i64 (side : Int), .int .i64 (used : Int)] := by
    have := Own.range (h := hown.only (show rowRoot H side used ∈ _ by simp)) 0 2
    exact this
  have cf1 := cf 1
  have cf2 := cf 2
  have hS : DkAt W0 ((w2.setCell ⟨l, 1, none⟩ (.int .i64 (side : Int))).setCell ⟨l, 2, none⟩ (.int .i64 (used : Int))) d D (rowLog l d side used (.slice none 0 0) false :: rowRoot H side used :: L) := DkAt.onSet (h := DkAt.onSet (h := HA2.out) 1 (.int .i64 (side : Int))) 2 (.int .i64 (used : Int))
  have hS2 : LgAt W0 ((w2.setCell ⟨l, 1, none⟩ (.int .i64 (side : Int))).setCell ⟨l, 2, none⟩ (.int .i64 (used : Int))) l d D side used [] false (rowRoot H side used :: L) := by
    refine ⟨H6.out, hs, Hfit.out, .slice none 0 0, [], [], ?_, Lst.nil _⟩
    obtain ⟨R, h1, h2⟩ := hS.open
    refine (h2 _ (rowV (.slice none 0 0) [] :: (rowLog l d side used (.slice none 0 0) false :: rowRoot H side used :: L)) ?_).perm (List.Perm.swap _ _ _)
    exact ((h1.nil 61 1) : Own W0 _ (rowV (.slice none 0 0) [] :: _)).perm List.perm_middle.symm
  have HS := Lib.hid hS2
  have hirt : (Tryz.prog.info? 115).map (·.size) = some [Value.int .i64 (side : Int), .int .i64 (used : Int)].length := info_root
  clear hS hS2 hown c0 c3 c4 cf
  go_wp2_with (refine wpList_load_mid rfl 115 (.tmp 3) rfl H 0 rfl [.int .i64 (side : Int), .int .i64 (used : Int)] _ hr2 Tryz.underlying115 rfl hirt ?_)
  clear HA2 b0 b1 hr2 c1 c2 cf1 cf2 cl
  go_loopw [5] (fun t wr => ∃ (k : Nat), k ≤ recs.length ∧ t = .int .i64 ((secsB (recs.take k)).length : Int) ∧ LgAt W0 wr l d D side used (recs.take k) false (rowRoot H side used :: L)) (fun t _ => used - (intOf t).toNat)
  case atStart => exact ⟨0, Nat.zero_le _, by simp [secsB], by simpa using HS.out⟩
  case round =>
    obtain ⟨k, hk, rfl, hA⟩ := hrel
    obtain ⟨b0, b1⟩ := root_cells hA.own (g := H) (a := side) (b := used) (List.mem_cons_self ..)
    by_cases hlt : k < recs.length
    · obtain ⟨bby, bl4⟩ := HH.out.all _ (List.getElem_mem hlt)
      have huse := HH.out.uses
      have hT := secsB_take recs k hlt
      have hle := secsB_take_le recs (k + 1)
      rw [hT, ← huse] at hle
      have hpos := roomM_pos (recs[k]).length
      have hTk : recs.take (k + 1) = recs.take k ++ [recs[k]] := List.take_succ_eq_append_getElem hlt
      have hg : ∀ j : Nat, j < roomM (recs[k]).length → D.last[2 + side * ((D.last.length - 2) / 2) + ((secsB (recs.take k)).length + j)]? = some (bs (cutB (recB recs[k]) j)) := by
        intro j hj
        rw [← secsV_at recs k hlt j hj, ← HH.out.secs _ (by omega), ← Hh.out]
      obtain ⟨lv, vs, M, h1, h2⟩ := hA.rest
      have hvl : vs.length ≤ 4096 := by rw [h2.1, List.length_take]; have := recs_le recs; rw [← huse] at this; omega
      have hrec := record_any h1 (List.mem_cons_self ..) H6.out Hup.out hs (secsB (recs.take k)).length recs[k] bby bl4 hle hu4 hg
      have Hrec := Lib.hid hrec
      have H1 := Lib.hid h1
      have H2 := Lib.hid h2
      have HT := Lib.hid hT
      have HTk := Lib.hid hTk
      have Hvl := Lib.hid hvl
      generalize recs[k] = b at *
      obtain ⟨x, hx⟩ : ∃ x, (secsB (recs.take k)).length = x := ⟨_, rfl⟩
      rw [hx] at Hrec HT hle ⊢
      clear hA hrec h1 h2 hT hTk hvl huse hg hx
      have hxu : x < used := by omega
      have hbn : b.length ≤ 140737488355328 := by omega
      go_wp2_with fail
      refine Hrec.out.mono ?_
      rintro e w3 ⟨v, M2, rfl, hO3, hp3⟩
      have hA3 : DkAt W0 w3 d D (rowV lv vs :: rowLog l d side used lv false :: (M2 ++ (M ++ (rowRoot H side used :: L)))) := (H1.out.join hO3).perm (permJ _ _ _ _)
      obtain ⟨a3, c3', hv3, _, _⟩ := id hp3
      subst hv3
      obtain ⟨_, _, _, k3, _, kf, kl⟩ := log_cells (hA3.perm (perm2 _ _ _))
      obtain ⟨lq, cq, rfl, _, _⟩ := Own.sized (h := hA3.own)
      obtain ⟨R2, h7, h8⟩ := hA3.first
      have H7 := Lib.hid (h7.alloc (.cells #[.slice a3 b.length c3'] 61))
      have H8 := Lib.hid h8
      have HP3 := Lib.hid hp3
      have hsrc := src_box w3 61 (.slice a3 b.length c3') rfl
      have Hsrc := Lib.hid hsrc
      have hb1 : vs.length + 1 ≤ maxLen := by have := Hvl.out; unfold maxLen; omega
      have hb2 : (vs.length + 1) * 24 ≤ 140737488355328 := by have := Hvl.out; omega
      have Hb1 := Lib.hid hb1
      have Hb2 := Lib.hid hb2
      clear hO3 hp3 hA3 h7 h8 hsrc hb1 hb2 kf b0 b1
      go_wp2_with (at_builtin; refine wpList_append_src rfl (.tmp 33) (.tmp 35) 91 rfl (.slice lq vs.length cq) vs.length vs (.slice (some ⟨w3.heap.size, 0, none⟩) 1 1) 1 [.slice a3 b.length c3'] rfl rfl H7.out i0 (.slice none 0 0) 24 Tryz.underlying91 hi hz0 hz1 hz2 rfl (by decide) Hsrc.out (by simp) Hb1.out Hb2.out ?_)
      intro v6 w6 hO6
      obtain ⟨a6, c6, rfl, _, _⟩ := Own.sized (h := hO6)
      have hA6 := H8.out w6 _ _ hO6
      obtain ⟨_, _, _, z3, _, zf, zl⟩ := log_cells (hA6.perm (perm2 _ _ _))
      have zf3 := zf 3
      have hE := lo_end rfl hA6 H2.out HP3.out H6.out hs Hfit.out
      rw [← HTk.out] at hE
      have HE := Lib.hid hE
      clear hO6 hA6 zf hE H7 H8 Hsrc k3 kl
      have hrb : roomM b.length ≤ 66 := by unfold roomM; omega
      go_wp2_with (go_at_call 77; refine (room_any b.length _ hbn).mono ?_; rintro e w' ⟨rfl, rfl⟩)
      exact ⟨⟨k + 1, by omega, by rw [HT.out]; go_num, HE.out⟩, by simp [intOf]; omega⟩
    · obtain rfl : k = recs.length := by omega
      rw [List.take_length] at hA ⊢
      have hu := HH.out.uses
      rw [← hu]
      have HA := Lib.hid (hA.sub (List.sublist_cons_self _ _))
      clear hA hu
      go_wp2_with fail
      go_ret
      exact ⟨rfl, HA.out⟩
end Go.Proofs.YtlkgmhlaoahdlaaGreatDoor
end

/- The log that lies on a disk is opened; a new one, on one of noughts. -/
section
namespace Go.Proofs.YtlkgmhlaoahdlaaGreatDoor
open Go.RowKit
set_option linter.unusedVariables false
set_option linter.unusedSimpArgs false

def z64 : List Int := List.replicate 64 0
theorem z64_byts : Byts z64 := zeros_byts 64
theorem eqZ (w : World) : (Op.equalIn 10000 111 (.agg zSec.toArray) (.agg zSec.toArray)).run Tryz.prog w = .ok true w := by
  have := eqSec z64 z64 z64_byts z64_byts rfl rfl w
  rw [decide_eq_true rfl] at this
  exact this

set_option maxHeartbeats 3200000 in
set_option maxRecDepth 100000 in
theorem blank_any {W0 : Base} {w : World} {d n : Nat} {D : Dk} {L : List Rw} (h : DkAt W0 w d D L) (hup : D.down = false) (hn : D.last = List.replicate n zSec) :
    Calls Tryz.prog 47 #[.pointer (some ⟨d, 0, none⟩)] w fun e w' => e = .returned (.bool true) ∧ Below w.heap.size w w' := by
  have hl : D.last.length = n := by rw [hn, List.length_replicate]
  have hm := h.ok.le
  rw [hl] at hm
  have hlen := len_any W0 w d D L h
  rw [hl] at hlen
  have Hlen := Lib.hid hlen
  have hrd : ∀ i : Nat, i < n → (readM D (i : Int)).1 = zSec ∧ (readM D (i : Int)).2 = 0 := by
    intro i hi
    have hr0 : refusedM D (i : Int) = 0 := by unfold refusedM; rw [hup, if_neg (by decide), if_neg (by omega)]
    unfold readM
    rw [hr0]
    refine ⟨?_, rfl⟩
    show D.last.getD i [] = _
    rw [List.getD_eq_getElem?_getD, hn, List.getElem?_replicate, if_pos hi]; rfl
  have Hrd := Lib.hid hrd
  have H := Lib.hid h
  have hzs := zero_sector
  have hEq := eqZ
  have hb := built_sector
  have hz2 : (Tryz.prog.info? 111).map (·.size) = some zSec.length := info_sector
  clear h hlen hrd hn hl hup
  go_enter Tryz.func47, Tryz.ntmps47
  go_wp2_with fail
  refine Hlen.out.mono ?_
  rintro e w' ⟨rfl, rfl⟩
  go_wp2_with fail
  go_loopw [8] (fun t wr => ∃ (i : Nat), i ≤ n ∧ t = .int .i64 i ∧ Below w.heap.size w wr) (fun t _ => n - (intOf t).toNat)
  case atStart => exact ⟨0, Nat.zero_le _, rfl, Below.refl _ _⟩
  case round =>
    obtain ⟨i, hi, rfl, hbw⟩ := hrel
    by_cases hlt : i < n
    · have HA := Lib.hid (H.out.later hbw)
      have Hbw := Lib.hid hbw
      obtain ⟨r1, r2⟩ := Hrd.out i hlt
      have R1 := Lib.hid r1
      have R2 := Lib.hid r2
      clear hbw r1 r2
      go_wp2_with fail
      refine (read_any W0 wr d D L (i : Int) HA.out).mono ?_
      rintro e w2 ⟨rfl, hb2⟩
      rw [R1.out, R2.out]
      have HO2 := Lib.hid (Own.start w2)
      have Hb2 := Lib.hid (Hbw.out.trans (hb2.mono Hbw.out.size))
      clear hb2 HA Hbw
      go_wp2_with (refine wpList_store_new rfl 111 (.tmp 4) (.tmp 15) rfl HO2.out zSec w2.heap.size rfl rfl rfl rfl hz2 zSec_sec.2 ?_)
      intro w3 hO3 _
      have cr : w3.rangeAt w2.heap.size 0 zSec := by
        have := hO3.range 0 zSec.length
        rw [List.drop_zero, List.take_length] at this
        exact this
      have Hb3 := Lib.hid (Hb2.out.trans (hO3.below.mono Hb2.out.size))
      clear hO3
      go_wp2_with (first
        | (refine wpList_load_mid rfl 111 (.tmp 4) rfl w2.heap.size 0 rfl zSec _ cr Tryz.underlying111 rfl hz2 ?_)
        | (refine wpList_build rfl 111 #[] rfl [] rfl _ hb ?_))
      exact ⟨⟨i + 1, by omega, by go_num, Hb3.out⟩, by simp [intOf]; omega⟩
    · obtain rfl : i = n := by omega
      have Hbw := Lib.hid hbw
      clear hbw
      go_wp2_with fail
      go_ret
      exact ⟨rfl, Hbw.out⟩

/-! ### What the root's sector is taken for -/
theorem num4_sizedL (zs l : List Int) (h : zs.length < 4294967296) : num4 (sizedL zs ++ l) = zs.length := by
  unfold sizedL
  rw [List.append_assoc, num4_le4 _ (by omega) (by omega)]
theorem isSized_sizedL (zs l : List Int) (most : Int) (h : zs.length < 4294967296) (hm : (zs.length : Int) ≤ most) : isSized (sizedL zs ++ l) most := by
  refine ⟨?_, ?_, ?_⟩
  · rw [List.length_append, sizedL_length]; omega
  · rw [num4_sizedL _ _ h]; exact hm
  · rw [num4_sizedL _ _ h, List.length_append, sizedL_length]; omega
theorem drop4_sizedL (zs l : List Int) : (sizedL zs ++ l).drop 4 = zs ++ l := by
  unfold sizedL le4
  rfl
theorem restOf_sizedL (zs l : List Int) (h : zs.length < 4294967296) : restOf (sizedL zs ++ l) = l := by
  unfold restOf
  rw [num4_sizedL _ _ h, drop4_sizedL, Int.toNat_natCast, List.drop_left']
  rfl
theorem rootB_form (side used : Nat) : rootB side used = sizedL (sb markS) ++ (le4 side ++ (le4 used ++ (le4 (crcI (rootH side used)) ++ List.replicate 37 0))) := by
  unfold rootB padTo
  rw [rootR_length]
  show rootR side used ++ List.replicate 37 0 = _
  unfold rootR
  conv => lhs; lhs; lhs; unfold rootH
  simp only [List.append_assoc, List.append_nil, List.nil_append]
theorem root_parts (side used : Nat) (hs : side ≤ 1) (hu : used ≤ 4096) : isSized (rootB side used) 11 ∧ 4 ≤ (restOf (rootB side used)).length ∧ num4 (restOf (rootB side used)) = side ∧ 4 ≤ ((restOf (rootB side used)).drop 4).length ∧ num4 ((restOf (rootB side used)).drop 4) = used := by
  have hm : (sb markS).length < 4294967296 := by rw [sb_length]; decide
  rw [rootB_form, restOf_sizedL _ _ hm]
  refine ⟨isSized_sizedL _ _ 11 hm (by rw [sb_length]; decide), ?_, num4_le4 _ (by omega) (by omega) _, ?_, ?_⟩
  · simp [le4]
  · simp [le4]
  · exact num4_le4 _ (by omega) (by omega) _
theorem z64_parts : isSized z64 11 ∧ 4 ≤ (restOf z64).length ∧ num4 (restOf z64) = (0 : Nat) ∧ 4 ≤ ((restOf z64).drop 4).length ∧ num4 ((restOf z64).drop 4) = (0 : Nat) := by
  unfold isSized
  decide +kernel
theorem z64_no : z64 ≠ rootB 0 0 := by
  intro e
  have := congrArg (fun l => l[0]?) e
  rw [rootB_form] at this
  have h2 : (some 0 : Option Int) = some 11 := this
  cases h2
end Go.Proofs.YtlkgmhlaoahdlaaGreatDoor
end
