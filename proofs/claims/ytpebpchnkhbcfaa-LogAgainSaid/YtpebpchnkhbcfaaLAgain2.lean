/- The walk of LogAgain. -/
import Derived.Test.YtpebpchnkhbcfaaLAgain
import Derived.Test.YtpebpchnkhbcfaaLTorn
namespace Go.Proofs.Ytpebpchnkhbcfaa
open Go.RowKit
set_option linter.unusedVariables false
set_option linter.unusedSimpArgs false

theorem info_act (o : Act) : (Try.prog.info? 33).map (·.size) = some (actCells o).length := by
  show (Try.prog.info? 33).map (·.size) = some 4
  kernel_rfl
theorem act_one {w : World} (o : Act) (h : By w o.2.2.1.1 o.2.2.1.2) : ∀ v ∈ actCells o, v.oneCell' = true := by
  obtain ⟨a, c, hv, _⟩ := h.2.2
  intro v hm
  simp only [actCells, List.mem_cons, List.not_mem_nil, or_false] at hm
  rcases hm with rfl | rfl | rfl | rfl
  · rfl
  · rfl
  · rw [hv]; rfl
  · rfl
/-- How far the law's first loop has come. -/
def AgainAt (w : World) (l d N i : Nat) (wr : World) : Prop := ∃ (D : Dk) (used : Nat) (recs : List (List Int)), LgAt w wr l d D 0 used recs false [] ∧ Live D N ((N - 2) / 2) 0 used recs (3 + 100 * i) ∧ D.left = 0
def AgainRel (w : World) (l d N n : Nat) (t : Value) (wr : World) : Prop := ∃ i : Nat, i ≤ n ∧ t = .int .i64 i ∧ AgainAt w l d N i wr
theorem AgainAt.own {w wr : World} {l d N i : Nat} (h : AgainAt w l d N i wr) : Below w.heap.size w wr := by
  obtain ⟨D, used, recs, h1, _⟩ := h
  exact h1.below
theorem AgainAt.next {w wr : World} {l d N i : Nat} (h : AgainAt w l d N i wr) : AgainAt w l d N (i + 1) wr := by
  obtain ⟨D, used, recs, h1, h2, h3⟩ := h
  exact ⟨D, used, recs, h1, h2.to (by omega), h3⟩
theorem AgainAt.later {w wr w' : World} {l d N i : Nat} (h : AgainAt w l d N i wr) (hb : Below wr.heap.size wr w') : AgainAt w l d N i w' := by
  obtain ⟨D, used, recs, h1, h2, h3⟩ := h
  exact ⟨D, used, recs, h1.later hb, h2, h3⟩
theorem AgainAt.append {w wr : World} {l d N i : Nat} (h : AgainAt w l d N i wr) (hi : i ≤ 60) (v : Value) (b : List Int) (hb : By w v b) (hl : b.length ≤ 300) :
    Calls Try.prog 10 #[.pointer (some ⟨l, 0, none⟩), v] wr fun e w' => ∃ code : Int, e = .returned (.int .i64 code) ∧ AgainAt w l d N (i + 1) w' := by
  obtain ⟨D, used, recs, h1, h2, h3⟩ := h
  refine (append_try h1 h2 (by omega) h3 v b (fun w' hO => hb.later hO.below) hl).mono ?_
  rintro e w' ⟨code, D', used', recs', rfl, g1, g2, g3⟩
  exact ⟨code, rfl, D', used', recs', g1, g2.to (by omega), g3⟩

/-! ### What was told is turned -/
/-- A slice of bytes within rows of N, whatever the bytes. -/
def Spot (N : List Rw) (v : Value) : Prop :=
  ∃ a k c, v = .slice a k c ∧ k ≤ maxLen ∧ (0 < k → ∃ g o cap ys, a = some ⟨g, o, none⟩ ∧ rowU (.slice (some ⟨g, 0, none⟩) ys.length cap) ys ∈ N ∧ o + k ≤ ys.length)
theorem Pc.spot {N : List Rw} {v : Value} {zs : List Int} (h : Pc N v zs) : Spot N v := by
  obtain ⟨a, c, hv, h1, h2, hz, h3⟩ := h
  refine ⟨a, zs.length, c, hv, by omega, fun hp => ?_⟩
  rcases h3 with ⟨_, h4⟩ | ⟨g, o, ha, h4⟩
  · omega
  · obtain ⟨cap, ys, h5, h6, _⟩ := h4 (List.length_pos_iff.1 hp)
    exact ⟨g, o, cap, ys, ha, h5, h6⟩
theorem Spot.set {A B : List Rw} {g cap : Nat} {ys ys' : List Int} {v : Value} (h : Spot (A ++ rowU (.slice (some ⟨g, 0, none⟩) ys.length cap) ys :: B) v) (hl : ys'.length = ys.length) : Spot (A ++ rowU (.slice (some ⟨g, 0, none⟩) ys.length cap) ys' :: B) v := by
  obtain ⟨a, k, c, hv, hk, h1⟩ := h
  refine ⟨a, k, c, hv, hk, fun hp => ?_⟩
  obtain ⟨g2, o, cap2, zs, ha, hm, hle⟩ := h1 hp
  rcases List.mem_append.1 hm with hm | hm
  · exact ⟨g2, o, cap2, zs, ha, List.mem_append_left _ hm, hle⟩
  · rcases List.mem_cons.1 hm with hm | hm
    · unfold rowU at hm
      injection hm with _ _ e1 e2 _
      injection e1 with e3 e4 e5
      injection e3 with e3
      injection e3 with e6
      subst e6 e5
      refine ⟨g2, o, cap2, ys', ha, List.mem_append_right _ ?_, by omega⟩
      rw [hl]
      exact List.mem_cons_self ..
    · exact ⟨g2, o, cap2, zs, ha, List.mem_append_right _ (List.mem_cons_of_mem _ hm), hle⟩
/-- The second log, and the list that it told, whose bytes may have been turned. -/
def MarkAt (w : World) (m d : Nat) (D : Dk) (used : Nat) (recs : List (List Int)) (lv : Value) (vs : List Value) (R : List Rw) (wr : World) : Prop :=
  ∃ N, LgAt w wr m d D 0 used recs false ((rowV lv vs :: N) ++ R) ∧ ∀ v ∈ vs, Spot N v
theorem MarkAt.turn {w wr : World} {m d used : Nat} {D : Dk} {recs : List (List Int)} {lv : Value} {vs : List Value} {R : List Rw} (h : MarkAt w m d D used recs lv vs R wr) {g o k c i : Nat} (hv : .slice (some ⟨g, o, none⟩) k c ∈ vs) (hi : i < k) :
    ∃ z : Int, wr.cell? ⟨g, o + i, none⟩ = some (.int .u8 z) ∧ wr.frozen? ⟨g, o + i, none⟩ = false ∧ ∀ u : Int, MarkAt w m d D used recs lv vs R (wr.setCell ⟨g, o + i, none⟩ (.int .u8 u)) := by
  obtain ⟨N, hA, hS⟩ := h
  obtain ⟨a', k', c', e, hk, h1⟩ := hS _ hv
  injection e with e1 e2 e3
  subst e1 e2 e3
  obtain ⟨g2, o2, cap, ys, e4, hm, hle⟩ := h1 (by omega)
  injection e4 with e4
  injection e4 with e5 e6
  subst e5 e6
  obtain ⟨A, B, rfl⟩ := List.append_of_mem hm
  have hp : ((rowV lv vs :: (A ++ rowU (.slice (some ⟨g, 0, none⟩) ys.length cap) ys :: B)) ++ R).Perm (rowU (.slice (some ⟨g, 0, none⟩) ys.length cap) ys :: ((rowV lv vs :: (A ++ B)) ++ R)) := by
    have : (rowV lv vs :: (A ++ rowU (.slice (some ⟨g, 0, none⟩) ys.length cap) ys :: B)) ++ R = (rowV lv vs :: A) ++ rowU (.slice (some ⟨g, 0, none⟩) ys.length cap) ys :: (B ++ R) := by simp
    rw [this]
    refine List.perm_middle.trans ?_
    rw [show (rowV lv vs :: A) ++ (B ++ R) = (rowV lv vs :: (A ++ B)) ++ R by simp]
  have hA2 := hA.perm hp
  obtain ⟨Q, h2, h3⟩ := hA2.first
  have h2' : Own w wr (⟨5, 1, .slice (some ⟨g, 0, none⟩) ys.length cap, ys.length, bs ys⟩ :: Q) := h2
  have hc := h2'.cell (o + i) (by omega)
  refine ⟨ys[o + i]'(by omega), ?_, h2'.free (o + i), fun u => ?_⟩
  · rw [hc]; simp [bs, List.getElem?_eq_getElem (show o + i < ys.length by omega)]
  · have h4 := h2'.set (o + i) (.int .u8 u)
    have e7 : (bs ys).set (o + i) (.int .u8 u) = bs (ys.set (o + i) u) := by simp [bs, List.map_set]
    rw [e7] at h4
    have e8 : (⟨5, 1, .slice (some ⟨g, 0, none⟩) ys.length cap, ys.length, bs (ys.set (o + i) u)⟩ : Rw) = rowU (.slice (some ⟨g, 0, none⟩) ys.length cap) (ys.set (o + i) u) := by unfold rowU; rw [List.length_set]
    rw [e8] at h4
    have h5 := h3 _ _ h4
    have hp2 : ((rowV lv vs :: (A ++ rowU (.slice (some ⟨g, 0, none⟩) ys.length cap) (ys.set (o + i) u) :: B)) ++ R).Perm (rowU (.slice (some ⟨g, 0, none⟩) ys.length cap) (ys.set (o + i) u) :: ((rowV lv vs :: (A ++ B)) ++ R)) := by
      have : (rowV lv vs :: (A ++ rowU (.slice (some ⟨g, 0, none⟩) ys.length cap) (ys.set (o + i) u) :: B)) ++ R = (rowV lv vs :: A) ++ rowU (.slice (some ⟨g, 0, none⟩) ys.length cap) (ys.set (o + i) u) :: (B ++ R) := by simp
      rw [this]
      refine List.perm_middle.trans ?_
      rw [show (rowV lv vs :: A) ++ (B ++ R) = (rowV lv vs :: (A ++ B)) ++ R by simp]
    exact ⟨_, h5.perm hp2.symm, fun v hv => (hS v hv).set (by rw [List.length_set])⟩
theorem MarkAt.list {w wr : World} {m d used : Nat} {D : Dk} {recs : List (List Int)} {a : Option Addr} {c : Nat} {vs : List Value} {R : List Rw} (h : MarkAt w m d D used recs (.slice a vs.length c) vs R wr) (j : Nat) (hj : j < vs.length) : ∃ g, a = some ⟨g, 0, none⟩ ∧ wr.cell? ⟨g, j, none⟩ = some vs[j] := by
  obtain ⟨N, hA, _⟩ := h
  have hO := hA.own
  have hO' : Own w wr (⟨30, 1, .slice a vs.length c, vs.length, vs⟩ :: (N ++ R)) := hO
  obtain ⟨g, cap, hf, _, _, _, _⟩ := hO'.form (by omega)
  injection hf with e1 e2 e3
  subst e1 e3
  exact ⟨g, rfl, by rw [hO'.cell j (by omega), List.getElem?_eq_getElem hj]⟩

set_option maxHeartbeats 6400000 in
set_option maxRecDepth 100000 in
theorem again_any (n : Int) (a : Option Addr) (len c : Nat) (w : World) (hP : Acts w a len) (hn : len ≤ maxLen) :
    Calls Try.prog 3 #[.int .i64 n, .slice a len c] w fun e w' => e = .returned (.bool true) ∧ Below w.heap.size w w' := by
  have hn9 : len < 9223372036854775808 := Nat.lt_of_le_of_lt hn (by unfold maxLen; decide)
  clear hn
  obtain ⟨q, hq, hqb⟩ := and_mask n 127 (by decide)
  have hq : bits BinOp.and IntKind.i64 n 127 = (q : Int) := hq
  have HP := Lib.hid hP
  clear hP
  by_cases hbig : 60 < len
  · have t1 : decide ((60 : Int) < (len : Int)) = true := by simp; omega
    go_enter Try.func3, Try.ntmps3
    go_wp2_with (go_at_call 7; refine (alive_any _).mono ?_; rintro e w1 ⟨rfl, hb1⟩)
    go_ret
    exact ⟨rfl, hb1⟩
  · have hsm : len ≤ 60 := by omega
    go_enter Try.func3, Try.ntmps3
    go_wp2_with (go_at_call 7; refine (alive_any _).mono ?_; rintro e w0 ⟨rfl, hb0⟩)
    have HO0 := Lib.hid (Own.of_below hb0)
    clear hb0
    rw [show (6 : Int) + (q : Int) = ((6 + q : Nat) : Int) by omega]
    refine (new_pos _ w0 [] (6 + q) HO0.out (by omega) (by omega)).mono ?_
    rintro e w1 ⟨d, rfl, hA1⟩
    have HA1 := Lib.hid hA1
    clear hA1
    go_wp2_with fail
    refine (open_new HA1.out (by omega) (by omega)).mono ?_
    rintro e w2 ⟨l, D, rfl, hA2, hV2, hl2⟩
    have HS := Lib.hid (show AgainRel w l d (6 + q) len (.int .i64 0) w2 from ⟨0, Nat.zero_le _, rfl, D, 0, [], hA2, hV2, hl2⟩)
    clear hA2 hV2 hl2 HA1
    go_wp2_with fail
    go_loopw [42] (fun t wr => AgainRel w l d (6 + q) len t wr) (fun t _ => 61 - (intOf t).toNat)
    case atStart => exact HS.out
    case round =>
      obtain ⟨i, hi, rfl, hT⟩ := hrel
      by_cases hlt : i < len
      · obtain ⟨b, off, ⟨k, x, ⟨v, zs⟩, pp⟩, ha, hr, hby, hk⟩ := (HP.out.below hT.own) i hlt
        obtain ⟨_, _, ⟨k', x', ⟨v', zs'⟩, pp'⟩, ha', hr', hby', _⟩ := HP.out i hlt
        rw [ha] at ha'
        injection ha' with ha'
        injection ha' with e1 e2 _
        subst e1 e2
        have hrr : ∀ j u, (actCells (k', x', (v', zs'), pp'))[j]? = some u → (actCells (k, x, (v, zs), pp))[j]? = some u := fun j u hj => by
          have h1 := hr' j u hj
          have h2 := (hT.own.cell (p := ⟨b, off + i * 4 + j, none⟩) (World.block_lt_of_cell? w _ h1)).trans h1
          have hj4 : j < 4 := by
            rcases Nat.lt_or_ge j 4 with h3 | h3
            · exact h3
            · rw [List.getElem?_eq_none (by simpa [actCells] using h3)] at hj; cases hj
          have h3 := hr j _ (List.getElem?_eq_getElem (l := actCells (k, x, (v, zs), pp)) (by simpa [actCells] using hj4))
          rw [List.getElem?_eq_getElem (by simpa [actCells] using hj4)]
          exact h3.symm.trans h2
        have hv2 : v = v' := by have := hrr 2 v' rfl; simpa [actCells] using this
        subst hv2
        obtain ⟨ab, cb, hv, _, _⟩ := hby'.2.2
        have hby' : By w v zs' := hby'
        dsimp only at hv
        subst hv
        have hone := act_one (k, x, (.slice ab zs'.length cb, zs'), pp) hby'
        have HT := Lib.hid hT
        have Hby := Lib.hid hby'
        have Hone := Lib.hid hone
        have Hr := Lib.hid (show wr.rangeAt b (off + i * 4) (actCells (k, x, (.slice ab zs'.length cb, zs'), pp)) from hr)
        have HO := Lib.hid (Own.start wr)
        subst ha
        clear hT hby hby' hone hr HS hrr hr' hk
        go_wp2_with (first
          | (refine wpList_load_mid rfl 33 (.tmp 44) rfl b (off + i * 4) rfl (actCells (k, x, (.slice ab zs'.length cb, zs'), pp)) _ Hr.out Try.underlying33 rfl (info_act _) ?_)
          | (refine wpList_store_new rfl 33 (.tmp 9) (.tmp 45) rfl HO.out (actCells (k, x, (.slice ab zs'.length cb, zs'), pp)) wr.heap.size rfl rfl rfl rfl (info_act _) Hone.out ?_))
        intro w3 hO3 hlt3
        have c0 : w3.cell? ⟨wr.heap.size, 0, none⟩ = some (.int .i64 k) := hO3.cell 0 (by show 0 < 1 * 4; decide)
        have c2 : w3.cell? ⟨wr.heap.size, 2, none⟩ = some (.slice ab zs'.length cb) := hO3.cell 2 (by show 2 < 1 * 4; decide)
        have HT3 := Lib.hid (HT.out.later hO3.below)
        clear hO3 HO Hone Hr
        by_cases h300 : zs'.length ≤ 300
        · by_cases hk0 : k = 0
          · have hk1 : (k == 0) = true := by simpa using hk0
            have Hap := Lib.hid (HT3.out.append (by omega) (.slice ab zs'.length cb) zs' Hby.out h300)
            clear hk0
            go_wp2_with fail
            refine Hap.out.mono ?_
            rintro e w4 ⟨code, rfl, hT4⟩
            have HT4 := Lib.hid hT4
            clear hT4 Hap
            go_wp2_with fail
            exact ⟨⟨i + 1, by omega, by go_num, HT4.out⟩, by simp [intOf]; omega⟩
          · have hk1 : (k == 0) = false := by simpa using hk0
            have HT4 := Lib.hid HT3.out.next
            go_wp2_with fail
            exact ⟨⟨i + 1, by omega, by go_num, HT4.out⟩, by simp [intOf]; omega⟩
        · have h300' : ¬ (zs'.length : Int) ≤ 300 := by omega
          have HT4 := Lib.hid HT3.out.next
          go_wp2_with fail
          exact ⟨⟨i + 1, by omega, by go_num, HT4.out⟩, by simp [intOf]; omega⟩
      · obtain ⟨D2, used, recs, hA, hV, hl0⟩ := hT
        have hR := hV.holds.all
        have hmany := hV.many
        have HV := Lib.hid hV
        have HR := Lib.hid hR
        have HA := Lib.hid hA
        clear hA hV hR HS
        go_wp2_with fail
        refine (list_any HA.out HR.out hmany).mono ?_
        rintro e w3 ⟨lv, vs, M, rfl, hO3, hL3⟩
        obtain ⟨a3, c3, rfl⟩ := list_form hO3
        have HA3 := Lib.hid (HA.out.join hO3)
        have HL := Lib.hid hL3
        clear hO3 hL3 HA
        obtain ⟨L3, hd3, hb3⟩ := HA3.out.diskCall
        have Hd3 := Lib.hid hd3
        clear hd3 hb3
        go_wp2_with fail
        refine (steps_any _ w3 d D2 L3 Hd3.out).mono ?_
        rintro e w' ⟨rfl, rfl⟩
        clear Hd3
        obtain ⟨lv0, vs0, M0, hd, hL0⟩ := HA3.out.rest
        have Hd := Lib.hid hd
        clear hd
        go_wp2_with fail
        refine (open_live Hd.out HV.out).mono ?_
        rintro e w4 ⟨m, rfl, hA4⟩
        have HA4 := Lib.hid hA4
        clear hA4 Hd
        obtain ⟨L4, hd4, _⟩ := HA4.out.diskCall
        have Hd4 := Lib.hid hd4
        clear hd4
        go_wp2_with fail
        refine (steps_any _ w4 d D2 L4 Hd4.out).mono ?_
        rintro e w' ⟨rfl, rfl⟩
        clear Hd4
        go_wp2_with fail
        refine (list_any HA4.out HR.out hmany).mono ?_
        rintro e w5 ⟨lv5, vs5, M5, rfl, hO5, hL5⟩
        have HA5 := Lib.hid (HA4.out.join hO5)
        have Hs := Lib.hid (same_yes (lv := lv5) (lv2 := .slice a3 vs.length c3) HA5.out.own (by simp) (hL5.mono fun r hr => by simp [hr]) (by simp) (HL.out.mono fun r hr => by simp [hr]))
        have Hb5 := Lib.hid (fun n : Nat => (hO5.drewN (n := n)).below)
        clear hO5 hL5
        go_wp2_with fail
        refine Hs.out.mono ?_
        rintro e w' ⟨rfl, n6, rfl⟩
        have HA6 := Lib.hid (HA4.out.later (w' := w5.drewN n6) (Hb5.out n6))
        clear Hs
        go_wp2_with fail
        refine (left_any HA6.out).mono ?_
        rintro e w' ⟨rfl, n7, rfl⟩
        have HA7 := Lib.hid (HA4.out.later (w' := w5.drewN (n6 + n7)) (Hb5.out _))
        have HB7 := Lib.hid (HA7.out.other hL0 HA3.out.sides HA3.out.fit)
        clear HA6 HA5
        go_wp2_with fail
        refine (left_any HB7.out).mono ?_
        rintro e w' ⟨rfl, n8, rfl⟩
        have HA8 := Lib.hid (HA4.out.later (w' := w5.drewN (n6 + n7 + n8)) (Hb5.out _))
        clear HA7 HB7
        go_wp2_with fail
        refine (list_any HA8.out HR.out hmany).mono ?_
        rintro e w9 ⟨lv9, vs9, M9, rfl, hO9, hL9⟩
        obtain ⟨a9, c9, rfl⟩ := list_form hO9
        have HA9 := Lib.hid (HA8.out.join hO9)
        have HL9 := Lib.hid hL9
        clear hO9 hL9
        have hM := (show MarkAt w m d D2 used recs (.slice a9 vs9.length c9) vs9 _ w9 from ⟨M9, HA9.out, fun v hv => by
          obtain ⟨i, hi, rfl⟩ := List.getElem_of_mem hv
          exact (HL9.out.2 i _ _ (List.getElem?_eq_getElem hi) (List.getElem?_eq_getElem (by rw [← HL9.out.1]; exact hi))).spot⟩)
        have hv9 : vs9.length ≤ 1000000 := by rw [HL9.out.1]; exact hmany
        have HM := Lib.hid hM
        clear hM HA9 HL9 HA8
        go_wp2_with fail
        go_loopw [94] (fun t wr => ∃ j : Nat, j ≤ vs9.length ∧ t = .int .i64 j ∧ MarkAt w m d D2 used recs (.slice a9 vs9.length c9) vs9 (rowLog l d 0 used lv0 false :: rowV lv0 vs0 :: (M0 ++ (rowV (.slice a3 vs.length c3) vs :: M ++ []))) wr) (fun t _ => vs9.length - (intOf t).toNat)
        case atStart => exact ⟨0, Nat.zero_le _, rfl, HM.out⟩
        case round =>
          obtain ⟨j, hj, rfl, hK⟩ := hrel
          by_cases hlt2 : j < vs9.length
          · obtain ⟨g9, rfl, hcj⟩ := hK.list j hlt2
            have hmem := List.getElem_mem hlt2
            have HK := Lib.hid hK
            obtain ⟨N, hA, hS⟩ := hK
            obtain ⟨ab, kb, cb, hvj, hkb, hsp⟩ := hS _ hmem
            rw [hvj] at hcj hmem
            clear hA hS hvj
            unfold maxLen at hkb
            have Hsp := Lib.hid hsp
            have Hmem := Lib.hid hmem
            clear hsp hmem HM
            by_cases h0 : 0 < kb
            · obtain ⟨gb, ob, capb, ysb, rfl, _, _⟩ := Hsp.out h0
              go_wp2_with fail
              go_loopw [100] (fun t wr2 => ∃ i : Nat, i ≤ kb ∧ t = .int .i64 i ∧ MarkAt w m d D2 used recs (.slice (some ⟨g9, 0, none⟩) vs9.length c9) vs9 (rowLog l d 0 used lv0 false :: rowV lv0 vs0 :: (M0 ++ (rowV (.slice a3 vs.length c3) vs :: M ++ []))) wr2) (fun t _ => kb - (intOf t).toNat)
              case atStart => exact ⟨0, Nat.zero_le _, rfl, HK.out⟩
              case round =>
                rename_i wr2 _ _ _ _ _ _ _ _ _ _
                obtain ⟨i, hi, rfl, hK2⟩ := hrel
                by_cases hlt3 : i < kb
                · obtain ⟨z, hcz, hfz, hset⟩ := hK2.turn Hmem.out hlt3
                  have HSet := Lib.hid hset
                  clear hset hK2
                  go_wp2_with fail
                  refine ⟨⟨i + 1, by omega, by go_num, HSet.out _⟩, by simp [intOf]; omega⟩
                · have HK2 := Lib.hid hK2
                  clear hK2
                  go_wp2_with fail
                  exact ⟨⟨j + 1, by omega, by go_num, HK2.out⟩, by simp [intOf]; omega⟩
            · obtain rfl : kb = 0 := by omega
              go_wp2_with fail
              go_loopw [100] (fun t wr2 => t = .int .i64 0 ∧ MarkAt w m d D2 used recs (.slice (some ⟨g9, 0, none⟩) vs9.length c9) vs9 (rowLog l d 0 used lv0 false :: rowV lv0 vs0 :: (M0 ++ (rowV (.slice a3 vs.length c3) vs :: M ++ []))) wr2) (fun t _ => 0)
              case atStart => exact ⟨rfl, HK.out⟩
              case round =>
                obtain ⟨rfl, hK2⟩ := hrel
                have HK2 := Lib.hid hK2
                clear hK2
                go_wp2_with fail
                exact ⟨⟨j + 1, by omega, by go_num, HK2.out⟩, by simp [intOf]; omega⟩
          · obtain ⟨N, hA, _⟩ := hK
            have HAm := Lib.hid (hA.sub (List.sublist_append_right _ _))
            obtain ⟨lvm, vsm, Mm, hdm, hLm⟩ := HAm.out.rest
            have Hdm := Lib.hid hdm
            clear hA hdm HM
            go_wp2_with fail
            refine (open_live Hdm.out HV.out).mono ?_
            rintro e w10 ⟨k, rfl, hAk⟩
            have HAk := Lib.hid hAk
            have HAm2 := Lib.hid (hAk.other hLm HAm.out.sides HAm.out.fit)
            clear hAk Hdm
            go_wp2_with fail
            refine (list_any HAm2.out HR.out hmany).mono ?_
            rintro e w11 ⟨lv11, vs11, M11, rfl, hO11, hL11⟩
            have HA11 := Lib.hid (HAm2.out.join hO11)
            have Hs := Lib.hid (same_yes (lv := lv11) (lv2 := .slice a3 vs.length c3) HA11.out.own (by simp) (hL11.mono fun r hr => by simp [hr]) (by simp) (HL.out.mono fun r hr => by simp [hr]))
            have HB := Lib.hid (fun n : Nat => HAk.out.later (w' := w11.drewN n) (hO11.drewN (n := n)).below)
            clear hO11 hL11 HA11
            go_wp2_with fail
            refine Hs.out.mono ?_
            rintro e w' ⟨rfl, n12, rfl⟩
            clear Hs
            go_wp2_with fail
            refine (list_any (HB.out n12) HR.out hmany).mono ?_
            rintro e w13 ⟨lv13, vs13, M13, rfl, hO13, hL13⟩
            have HA13 := Lib.hid ((HB.out n12).join hO13)
            have Hs := Lib.hid (same_yes (lv := lv13) (lv2 := .slice a3 vs.length c3) HA13.out.own (by simp) (hL13.mono fun r hr => by simp [hr]) (by simp) (HL.out.mono fun r hr => by simp [hr]))
            have Hbel := Lib.hid (fun n : Nat => (HA13.out.drewN (n := n)).below)
            clear hO13 hL13
            go_wp2_with fail
            refine Hs.out.mono ?_
            rintro e w' ⟨rfl, n14, rfl⟩
            go_wp2_with fail
            go_ret
            exact ⟨rfl, Hbel.out _⟩
end Go.Proofs.Ytpebpchnkhbcfaa
