/- 'LogTorn': for whatever records, and whichever step, the law returns true, and writes nothing that was there. -/
import Derived.Test.YtpebpchnkhbcfaaLLong
namespace Go.Proofs.Ytpebpchnkhbcfaa
open Go.RowKit
set_option linter.unusedVariables false
set_option linter.unusedSimpArgs false

theorem Live.plan {D : Dk} {n h side used st : Nat} {recs : List (List Int)} (H : Live D n h side used recs st) (m k : Int) : Live (planM D m k) n h side used recs st := ⟨⟨H.clean.1, H.clean.2⟩, H.up, H.len, H.half, H.holds, H.steps⟩
/-- Values that came in, and read as these. -/
def Olds (w : World) (vs : List Value) (recs : List (List Int)) : Prop := vs.length = recs.length ∧ ∀ (i : Nat) (v : Value) (b : List Int), vs[i]? = some v → recs[i]? = some b → By w v b
theorem Olds.nil (w : World) : Olds w [] [] := ⟨rfl, fun i v b h => by simp at h⟩
theorem Olds.push {w : World} {vs : List Value} {recs : List (List Int)} (h : Olds w vs recs) {v : Value} {b : List Int} (hp : By w v b) : Olds w (vs ++ [v]) (recs ++ [b]) := by
  refine ⟨by simp [h.1], fun i u c h1 h2 => ?_⟩
  have hl := h.1
  by_cases hi : i < vs.length
  · rw [List.getElem?_append_left hi] at h1
    rw [List.getElem?_append_left (by omega)] at h2
    exact h.2 i u c h1 h2
  · rw [List.getElem?_append_right (by omega)] at h1
    rw [List.getElem?_append_right (by omega)] at h2
    by_cases hi2 : i = vs.length
    · subst hi2
      rw [Nat.sub_self] at h1
      rw [hl, Nat.sub_self] at h2
      simp at h1 h2
      subst h1 h2
      exact hp
    · have : i - vs.length = (i - vs.length - 1) + 1 := by omega
      rw [this] at h1
      simp at h1
/-- The list's first ones, as one that is read. -/
theorem olds_parts {W0 : Base} {w : World} {a : Option Addr} {c n : Nat} {vs : List Value} {recs : List (List Int)} {L : List Rw} (h : Olds W0.world vs recs) (hO : Own W0 w (rowV (.slice a n c) vs :: L)) (k : Nat) (hk : k ≤ recs.length) : Parts w a ((vs.take k).zip (recs.take k)) := by
  intro i hi
  have hl := h.1
  rw [List.length_zip, List.length_take, List.length_take] at hi
  have hO' : Own W0 w (⟨30, 1, .slice a n c, vs.length, vs⟩ :: L) := hO
  obtain ⟨g, cap, hf, _, _, _, _⟩ := hO'.form (by omega)
  injection hf with e1 e2 e3
  subst e1 e2 e3
  refine ⟨g, 0, rfl, ?_, ?_⟩
  · rw [Nat.zero_add, Own.cell (h := hO') i (by omega), List.getElem?_eq_getElem (by omega), List.getElem_zip, List.getElem_take]
  · rw [List.getElem_zip, List.getElem_take, List.getElem_take]
    exact (h.2 i _ _ (List.getElem?_eq_getElem (by omega)) (List.getElem?_eq_getElem (by omega))).later hO.below

theorem LgAt.diskIn {W0 : Base} {w : World} {l d : Nat} {D : Dk} {side used : Nat} {recs : List (List Int)} {dead : Bool} {L : List Rw} (h : LgAt W0 w l d D side used recs dead L) : ∃ L', DkAt W0 w d D L' ∧ ∀ r ∈ L, r ∈ L' := by
  obtain ⟨lv, vs, M, h1, h2⟩ := h.rest
  exact ⟨_, h1, fun r hr => List.mem_cons_of_mem _ (List.mem_cons_of_mem _ (List.mem_append_right _ hr))⟩
/-- How far the law has come: so many records were told to be kept; the disk has these, or one more. -/
def TornAt (w : World) (l d i told : Nat) (lv : Value) (wr : World) : Prop := ∃ (D : Dk) (vs : List Value) (recs held : List (List Int)) (used k u : Nat) (dead : Bool),
  LgAt w wr l d D 0 used held dead [rowV lv vs] ∧ Olds w vs recs ∧ Recs recs ∧ recs.length ≤ i ∧ Clean D ∧ D.last.length = 1500 ∧ D.steps ≤ (3 + 100 * i : Nat) ∧ held.length ≤ 100 ∧
  told ≤ k ∧ k ≤ told + 1 ∧ k ≤ recs.length ∧ Holds D.last 749 0 u (recs.take k) ∧
  ((dead = false ∧ D.down = false ∧ held = recs ∧ used = u ∧ k = recs.length ∧ told = recs.length ∧ used ≤ 6 * i) ∨ (dead = true ∧ D.down = true))
def TornRel (w : World) (l d n : Nat) (told : Value) (lv t : Value) (wr : World) : Prop := ∃ (i tl : Nat), i ≤ n ∧ t = .int .i64 i ∧ told = .int .i64 tl ∧ TornAt w l d i tl lv wr
theorem TornAt.next {w wr : World} {l d i told : Nat} {lv : Value} (h : TornAt w l d i told lv wr) : TornAt w l d (i + 1) told lv wr := by
  obtain ⟨D, vs, recs, held, used, k, u, dead, h1, h2, h3, h4, h5, h6, h7, h8, h9, h10, h11, h12, h13⟩ := h
  refine ⟨D, vs, recs, held, used, k, u, dead, h1, h2, h3, by omega, h5, h6, by omega, h8, h9, h10, h11, h12, ?_⟩
  rcases h13 with ⟨a, b, c, d, e, f, g⟩ | h13
  · exact .inl ⟨a, b, c, d, e, f, by omega⟩
  · exact .inr h13
theorem TornAt.own {w wr : World} {l d i told : Nat} {lv : Value} (h : TornAt w l d i told lv wr) : Below w.heap.size w wr := by
  obtain ⟨D, vs, recs, held, used, k, u, dead, h1, _⟩ := h
  exact h1.below

set_option maxHeartbeats 6400000 in
set_option maxRecDepth 100000 in
theorem torn_any (a : Option Addr) (c : Nat) (PS : List (Value × List Int)) (step keeps : Int) (w : World) (hk : (Lit.int .u64 keeps).wf = true) (hP : Parts w a PS) (hn : PS.length ≤ maxLen) :
    Calls Try.prog 5 #[.slice a PS.length c, .int .i64 step, .int .u64 keeps] w fun e w' => e = .returned (.bool true) ∧ Below w.heap.size w w' := by
  have hu1 : IntKind.u64.min = 0 := rfl
  have hu2 : IntKind.u64.max = 18446744073709551615 := rfl
  simp only [Lit.wf, Bool.and_eq_true, decide_eq_true_eq] at hk
  have hk0 : 0 ≤ keeps := by omega
  have hk1 : keeps < 18446744073709551616 := by omega
  have hn9 : PS.length < 9223372036854775808 := Nat.lt_of_le_of_lt hn (by unfold maxLen; decide)
  clear hu1 hu2 hk hn
  obtain ⟨q, hq, hqb⟩ := and_mask step 127 (by decide)
  have hq : bits BinOp.and IntKind.i64 step 127 = (q : Int) := hq
  have HP := Lib.hid hP
  clear hP
  by_cases hbig : 30 < PS.length
  · have t1 : decide ((30 : Int) < (PS.length : Int)) = true := by simp; omega
    go_enter Try.func5, Try.ntmps5
    go_wp2_with (go_at_call 7; refine (alive_any _).mono ?_; rintro e w1 ⟨rfl, hb1⟩)
    go_ret
    exact ⟨rfl, hb1⟩
  · have hsm : PS.length ≤ 30 := by omega
    go_enter Try.func5, Try.ntmps5
    go_wp2_with (go_at_call 7; refine (alive_any _).mono ?_; rintro e w0 ⟨rfl, hb0⟩)
    have HO0 := Lib.hid (Own.of_below hb0)
    clear hb0
    refine (new_pos _ w0 [] 1500 HO0.out (by decide) (by decide)).mono ?_
    rintro e w1 ⟨d, rfl, hA1⟩
    have HA1 := Lib.hid hA1
    clear hA1
    go_wp2_with fail
    refine (open_new HA1.out (by decide) (by decide)).mono ?_
    rintro e w2 ⟨l, D, rfl, hA2, hV2, hl2⟩
    obtain ⟨L2, hd2, hb2⟩ := hA2.diskCall
    have Hd2 := Lib.hid hd2
    have Hb2 := Lib.hid hb2
    have HV2 := Lib.hid hV2
    clear hA2 hV2 hl2 HA1 hd2 hb2
    go_wp2_with fail
    refine (plan_any _ w2 d D L2 (1 + (q : Int)) keeps Hd2.out (by omega) hk0 hk1).mono ?_
    rintro e w3 ⟨rfl, hA3⟩
    have hA3 := Hb2.out w3 _ hA3 rfl
    have hV3 := HV2.out.plan (1 + (q : Int)) keeps
    have hA4 : LgAt w (w3.alloc (.cells #[] 30)) l d (planM D (1 + (q : Int)) keeps) 0 0 [] false [rowV (.slice (some ⟨w3.heap.size, 0, none⟩) 0 0) []] := hA3.join ((Own.start w3).made 30 1 #[] 0 rfl (Nat.zero_le _))
    have HS := Lib.hid (show TornRel w l d PS.length (.int .i64 0) (.slice (some ⟨w3.heap.size, 0, none⟩) 0 0) (.int .i64 0) (w3.alloc (.cells #[] 30)) from ⟨0, 0, Nat.zero_le _, rfl, rfl, _, [], [], [], 0, 0, 0, false, hA4, Olds.nil w, (fun b hb => by cases hb), Nat.le_refl _, hV3.clean, hV3.len, hV3.steps, by decide, Nat.le_refl _, Nat.zero_le _, Nat.le_refl _, hV3.holds, .inl ⟨rfl, hV3.up, rfl, rfl, rfl, rfl, Nat.zero_le _⟩⟩)
    clear hA3 hV3 hA4 Hd2 Hb2 HV2
    go_wp2_with fail
    go_loopw [10, 11, 43] (fun told lv t wr => TornRel w l d PS.length told lv t wr) (fun _ _ t _ => 31 - (intOf t).toNat)
    case atStart => exact HS.out
    case round =>
      obtain ⟨i, tl, hi, rfl, rfl, hT⟩ := hrel
      by_cases hlt : i < PS.length
      · obtain ⟨g, o, x, c', rfl, hc, hv, hx1, hx2⟩ := (HP.out.later hT.own).form i hlt
        have hby0 : By w PS[i].1 PS[i].2 := by
          obtain ⟨_, _, _, _, h⟩ := HP.out i hlt
          exact h
        rw [hv] at hby0
        have Hby0 := Lib.hid hby0
        clear hby0 hv
        generalize PS[i].2 = b at *
        by_cases h300 : 300 < b.length
        · have HT := Lib.hid hT.next
          clear hT
          go_wp2_with fail
          exact ⟨⟨i + 1, tl, by omega, by go_num, rfl, HT.out⟩, by simp [intOf]; omega⟩
        · obtain ⟨D1, vs, recs, held, used, k, u, dead, h1, h2, h3, h4, h5, h6, h7, h8, h9, h10, h11, h12, h13⟩ := hT
          obtain ⟨lq, cq, rfl, _, _⟩ := Own.sized (h := h1.own)
          obtain ⟨R2, j7, j8⟩ := h1.first
          have H7 := Lib.hid (j7.alloc (.cells #[.slice x b.length c'] 30))
          have H8 := Lib.hid j8
          have hsrc := src_box wr 30 (.slice x b.length c') rfl
          have Hsrc := Lib.hid hsrc
          have hvl := h2.1
          have hb1 : vs.length + 1 ≤ maxLen := by unfold maxLen; omega
          have hb2 : (vs.length + 1) * 24 ≤ 140737488355328 := by omega
          have Hb1 := Lib.hid hb1
          have Hb2 := Lib.hid hb2
          have Hst := Lib.hid (show Olds w vs recs ∧ Recs recs ∧ recs.length ≤ i ∧ Clean D1 ∧ D1.last.length = 1500 ∧ D1.steps ≤ (3 + 100 * i : Nat) ∧ held.length ≤ 100 ∧ tl ≤ k ∧ k ≤ tl + 1 ∧ k ≤ recs.length ∧ Holds D1.last 749 0 u (recs.take k) from ⟨h2, h3, h4, h5, h6, h7, h8, h9, h10, h11, h12⟩)
          have H13 := Lib.hid h13
          obtain ⟨i0, hi0, hz0, hz1, hz2⟩ := info_parts info_v
          have hvb : vs.length ≤ 30 := by omega
          clear h1 h2 h3 h4 h5 h6 h7 h8 h9 h10 h11 h12 h13 j7 j8 hsrc hb1 hb2 hvl HS hA3
          go_wp2_with (at_builtin; refine wpList_append_src rfl (.tmp 50) (.tmp 52) 35 rfl (.slice lq vs.length cq) vs.length vs (.slice (some ⟨wr.heap.size, 0, none⟩) 1 1) 1 [.slice x b.length c'] rfl rfl H7.out i0 (.slice none 0 0) 24 Try.underlying35 hi0 hz0 hz1 hz2 rfl (by decide) Hsrc.out (by simp) Hb1.out Hb2.out ?_)
          intro v6 w6 hO6
          obtain ⟨a6, c6, rfl, _, _⟩ := Own.sized (h := hO6)
          have hA6 := H8.out w6 _ hO6
          have e6 : (⟨30, 1, .slice a6 (vs.length + 1) c6, vs.length + 1, vs ++ [.slice x b.length c']⟩ : Rw) = rowV (.slice a6 (vs.length + 1) c6) (vs ++ [.slice x b.length c']) := by unfold rowV; rw [List.length_append]; rfl
          rw [e6] at hA6
          have HA6 := Lib.hid hA6
          have hbb : ∀ w', Own (w : Base) w' [rowV (.slice a6 (vs.length + 1) c6) (vs ++ [.slice x b.length c'])] → By w' (.slice x b.length c') b := fun w' h => Hby0.out.later h.below
          have Hbb := Lib.hid hbb
          obtain ⟨g1, g2, g3, g4, g5, g6, g7, g8, g9, g10, g11⟩ := Hst.out
          have hpush := g1.push Hby0.out
          have hR2 : Recs (recs ++ [b]) := fun y hy => by
            rcases List.mem_append.1 hy with m1 | m1
            · exact g2 y m1
            · rw [List.mem_singleton.1 m1]; exact ⟨Hby0.out.2.1, by omega⟩
          have htk : ∀ j : Nat, j ≤ recs.length → (recs ++ [b]).take j = recs.take j := fun j hj => List.take_append_of_le_length hj
          have hl1 : (recs ++ [b]).length = recs.length + 1 := by simp
          have hrm : roomM b.length ≤ 6 := by unfold roomM; omega
          have HX := Lib.hid (show Olds w (vs ++ [.slice x b.length c']) (recs ++ [b]) ∧ Recs (recs ++ [b]) ∧ (∀ j : Nat, j ≤ recs.length → (recs ++ [b]).take j = recs.take j) ∧ (recs ++ [b]).length = recs.length + 1 ∧ vs.length = recs.length from ⟨hpush, hR2, htk, hl1, g1.1⟩)
          clear hO6 hA6 e6 hbb g1 hpush hR2 htk hl1 H7 H8 Hsrc
          rcases H13.out with ⟨rfl, d2, rfl, rfl, rfl, rfl, d7⟩ | ⟨rfl, d2⟩
          · have hV : Live D1 1500 749 0 used held (3 + 100 * i) := ⟨g4, d2, g5, rfl, by have := g11; rwa [List.take_length] at this, g6⟩
            have Hy := Lib.hid (append_yes HA6.out hV (by omega) (.slice x b.length c') b Hbb.out (by omega) (by omega))
            clear hV g2 g4 g11 g6 g5
            go_wp2_with fail
            refine Hy.out.mono ?_
            rintro e w7 (⟨D7, rfl, hA7, hV7, hl7⟩ | ⟨D7, hne, rfl, hA7, q1, q2, q3, q4, q5, q6⟩)
            · have HF := Lib.hid (show TornAt w l d (i + 1) (vs.length + 1) (.slice a6 (vs.length + 1) c6) w7 from ⟨D7, _, held ++ [b], held ++ [b], used + roomM b.length, (held ++ [b]).length, used + roomM b.length, false, hA7, HX.out.1, HX.out.2.1, by rw [HX.out.2.2.2.1]; omega, hV7.clean, hV7.len, by have := hV7.steps; omega, by rw [HX.out.2.2.2.1]; omega, by rw [HX.out.2.2.2.1, HX.out.2.2.2.2]; exact Nat.le_refl _, by rw [HX.out.2.2.2.1, HX.out.2.2.2.2]; omega, Nat.le_refl _, by rw [List.take_length]; exact hV7.holds, .inl ⟨rfl, hV7.up, rfl, rfl, rfl, by rw [HX.out.2.2.2.1, HX.out.2.2.2.2], by omega⟩⟩)
              clear hA7 hV7 hl7 Hy
              go_wp2_with fail
              exact ⟨⟨i + 1, vs.length + 1, by omega, by go_num, by go_num, HF.out⟩, by simp [intOf]; omega⟩
            · have HF := Lib.hid (show TornAt w l d (i + 1) held.length (.slice a6 (vs.length + 1) c6) w7 from by
                rcases q6 with q6 | q6
                · exact ⟨D7, _, held ++ [b], held, used, held.length, used, true, hA7, HX.out.1, HX.out.2.1, by rw [HX.out.2.2.2.1]; omega, q1, q4, by omega, by omega, Nat.le_refl _, by omega, by rw [HX.out.2.2.2.1]; omega, by rw [HX.out.2.2.1 _ (Nat.le_refl _), List.take_length]; exact q6, .inr ⟨rfl, q2⟩⟩
                · exact ⟨D7, _, held ++ [b], held, used, (held ++ [b]).length, used + roomM b.length, true, hA7, HX.out.1, HX.out.2.1, by rw [HX.out.2.2.2.1]; omega, q1, q4, by omega, by omega, by rw [HX.out.2.2.2.1]; omega, by rw [HX.out.2.2.2.1]; exact Nat.le_refl _, Nat.le_refl _, by rw [List.take_length]; exact q6, .inr ⟨rfl, q2⟩⟩)
              clear hA7 q1 q2 q3 q4 q5 q6 Hy hne
              go_wp2_with fail
              exact ⟨⟨i + 1, held.length, by omega, by go_num, rfl, HF.out⟩, by simp [intOf]; omega⟩
          · have Hy := Lib.hid (append_down HA6.out (.slice x b.length c') b Hbb.out (by omega) g4 (by omega) rfl)
            go_wp2_with fail
            refine Hy.out.mono ?_
            rintro e w7 ⟨rfl, hA7⟩
            have HF := Lib.hid (show TornAt w l d (i + 1) tl (.slice a6 (vs.length + 1) c6) w7 from ⟨D1, _, recs ++ [b], held, used, k, u, true, hA7, HX.out.1, HX.out.2.1, by rw [HX.out.2.2.2.1]; omega, g4, g5, by omega, g7, g8, g9, by rw [HX.out.2.2.2.1]; omega, by rw [HX.out.2.2.1 _ g10]; exact g11, .inr ⟨rfl, d2⟩⟩)
            clear hA7 Hy g2 g4 g5 g6 g11
            go_wp2_with fail
            exact ⟨⟨i + 1, tl, by omega, by go_num, rfl, HF.out⟩, by simp [intOf]; omega⟩
      · obtain rfl : i = PS.length := by omega
        obtain ⟨D1, vs, recs, held, used, k, u, dead, h1, h2, h3, h4, h5, h6, h7, h8, h9, h10, h11, h12, h13⟩ := hT
        obtain ⟨lq, cq, rfl, hcq, _⟩ := Own.sized (h := h1.own)
        obtain ⟨L', hd, hin⟩ := h1.diskIn
        have hrow := hin _ (List.mem_singleton.2 rfl)
        have Hrow := Lib.hid hrow
        have Hd := Lib.hid hd
        have H2 := Lib.hid h2
        have hvl := h2.1
        obtain ⟨p1, p2, p3, p4, p5⟩ := crash_clean D1 h5 (keeps / 128)
        have hV : Live (onM (crashM D1 (keeps / 128))) 1500 749 0 u (recs.take k) (3 + 100 * PS.length) := ⟨⟨p1.1, p1.2⟩, rfl, by show (crashM D1 (keeps / 128)).last.length = 1500; rw [p2]; exact h6, rfl, by show Holds (crashM D1 (keeps / 128)).last _ _ _ _; rw [p2]; exact h12, by show (crashM D1 (keeps / 128)).steps ≤ _; rw [p5]; exact h7⟩
        have HV := Lib.hid hV
        have hkl : (recs.take k).length = k := by rw [List.length_take]; omega
        have Hkl := Lib.hid hkl
        have hkr0 : 0 ≤ keeps / 128 := by omega
        have hkr1 : keeps / 128 < 18446744073709551616 := by omega
        clear h1 h2 h3 h5 h6 h7 h8 h12 h13 hd hin hrow p1 p2 p3 p4 p5 hV hkl HS hA3
        go_wp2_with fail
        refine (crash_any _ wr d D1 L' (keeps / 128) Hd.out hkr0 hkr1).mono ?_
        rintro e w4 ⟨rfl, hA4⟩
        have HA4 := Lib.hid hA4
        generalize crashM D1 (keeps / 128) = D2 at *
        clear hA4 Hd
        go_wp2_with fail
        refine (on_any _ w4 d D2 L' HA4.out).mono ?_
        rintro e w5 ⟨rfl, hA5⟩
        have HA5 := Lib.hid hA5
        generalize onM D2 = D3 at *
        clear hA5 HA4
        go_wp2_with fail
        refine (open_live HA5.out HV.out).mono ?_
        rintro e w6 ⟨l6, rfl, hA6⟩
        have HA6 := Lib.hid hA6
        clear hA6 HA5
        go_wp2_with fail
        refine (list_any HA6.out HV.out.holds.all HV.out.many).mono ?_
        rintro e w7 ⟨lv7, vs7, M7, rfl, hO7, hL7⟩
        have hA7 := HA6.out.join hO7
        have hX := hA7.own
        obtain ⟨a7, c7, rfl, hP7, hm7⟩ := parts_in hX (lv := lv7) (vs := vs7) (by simp) (hL7.mono fun y hy => by simp [hy])
        have hO : Own (w : Base) w7 (rowV (.slice lq vs.length cq) vs :: []) := hX.only (List.mem_append_right _ Hrow.out)
        have hP := olds_parts (W0 := (w : Base)) H2.out hO k h11
        have h7l : vs7.length = k := by rw [hL7.1, Hkl.out]
        have e1 : (vs7.zip (recs.take k)).length = k := by rw [List.length_zip, h7l, Hkl.out, Nat.min_self]
        have e2 : ((vs.take k).zip (recs.take k)).length = k := by rw [List.length_zip, List.length_take, Hkl.out]; omega
        have hs := same_any a7 lq c7 cq (vs7.zip (recs.take k)) ((vs.take k).zip (recs.take k)) w7 hP7 hP (by rw [e1]; unfold maxLen; omega) (by rw [e2]; unfold maxLen; omega)
        rw [e1, e2, zip_recs vs7 _ (by rw [h7l, Hkl.out]), zip_recs (vs.take k) _ (by rw [List.length_take, Hkl.out]; omega), decide_eq_true rfl] at hs
        have Hs := Lib.hid hs
        have Hbel := Lib.hid (fun n => (hA7.drewN (n := n)).below)
        rw [h7l]
        clear hO7 hL7 hA7 hX hP7 hP hO h7l e1 e2 hs HA6 hm7
        have hkc : k ≤ cq := by omega
        have hkv : k ≤ vs.length := by omega
        have hvb : vs.length ≤ 30 := by omega
        go_wp2_with (go_at_call 13; refine Hs.out.mono ?_; rintro e w' ⟨rfl, n8, rfl⟩)
        go_ret
        exact ⟨rfl, Hbel.out n8⟩
end Go.Proofs.Ytpebpchnkhbcfaa
