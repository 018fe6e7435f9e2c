/- The document's answer for units: farrierref13.Parse: its walk. -/
import Derived.Test.YtmnohaefklglfaaDoorUn35
namespace Go.Proofs.YtmnohaefklglfaaDoor
open Go.RowKit
open Go.ChangeMaps (setBlock)
set_option linter.unusedVariables false
set_option linter.unusedSimpArgs false
set_option maxRecDepth 100000

theorem Prog.split {l : List UInt8} {done : List (List UInt8)} {f k : Nat} (h : Prog l done f k) (hk : k ≤ l.length + 1) : ∃ rest, linesL l = done ++ rest := by
  by_cases h1 : k ≤ l.length
  · exact ⟨_, (h.on h1).1⟩
  · exact ⟨[], by rw [List.append_nil]; exact h.off (by omega)⟩
theorem stsq_nil (Q : Nat → Prop) (w : World) : StsQ Q w (.slice none 0 0) [] := ⟨⟨none, 0, rfl, Nat.le_refl _, Nat.zero_le _, fun h => absurd h (by simp)⟩, fun h => absurd h (by simp), .inl rfl⟩
theorem unitw_zero (w : World) : UnitW w (.agg #[.string ⟨#[]⟩, .slice none 0 0, .slice none 0 0, .slice none 0 0, .slice none 0 0, .slice none 0 0, .slice none 0 0, .int .i64 0]) UD0.name UD0.ls (retU UD0) :=
  ⟨_, _, _, _, _, _, [], [], [], [], [], [], rfl, rfl, ⟨(stsq_nil (fun _ => True) w).1, (stsq_nil (fun _ => True) w).1, (stsq_nil (fun _ => True) w).1, (stsq_nil (fun _ => True) w).1, (stsq_nil (fun _ => True) w).1, (stsq_nil (fun _ => True) w).1⟩⟩
theorem RfSt.skip {w W : World} {s : ByteArray} {done : List (List UInt8)} {f k f' k' : Nat} {u : UD} {cs : Array Value} {p : List UInt8} (h : RfSt w s done f k u cs W) (hp : Prog s.data.toList (done ++ [p]) f' k') (hs : p = [] ∨ p.head? = some 35) : RfSt w s (done ++ [p]) f' k' u cs W :=
  ⟨hp, by rw [run_snoc h.run, step_skip hs, if_pos rfl, List.length_append]; rfl, h.ok, h.below, h.size, h.res, h.cur, h.val⟩
set_option maxHeartbeats 16000000 in
theorem refparse_any (w : World) (s : ByteArray) (hs : s.size ≤ 1000) :
    Calls Tryd.prog 8 #[.string s] w fun e w' => (∃ v, e = .returned (.tuple #[v, .int .i64 (parseU s.data.toList).1, .int .i64 ((parseU s.data.toList).2.1 : Nat)]) ∧ UnitW w' v (parseU s.data.toList).2.2.name (parseU s.data.toList).2.2.ls (retU (parseU s.data.toList).2.2)) ∧ Below w.heap.size w w' := by
  obtain ⟨W2, hW2⟩ : ∃ W2, W2 = (w.alloc (.cells #[.string ⟨#[]⟩, .slice none 0 0, .slice none 0 0, .slice none 0 0, .slice none 0 0, .slice none 0 0, .slice none 0 0, .int .i64 0] 31)).alloc (.cells #[.string ⟨#[]⟩, .slice none 0 0, .slice none 0 0, .slice none 0 0, .slice none 0 0, .slice none 0 0, .slice none 0 0, .int .i64 (-1)] 31) := ⟨_, rfl⟩
  have hst : RfSt w s [] 0 0 UD0 #[.string ⟨#[]⟩, .slice none 0 0, .slice none 0 0, .slice none 0 0, .slice none 0 0, .slice none 0 0, .slice none 0 0, .int .i64 (-1)] W2 := by
    refine ⟨Prog.start _, rfl, UOk.zero, by rw [hW2]; exact ((Below.refl _ w).alloc (Nat.le_refl _) _).alloc (by simp) _, by rw [hW2]; simp, ?_, ?_, ⟨_, _, _, _, _, _, [], [], [], [], [], [], rfl, rfl, ⟨stsq_nil _ _, stsq_nil _ _, stsq_nil _ _, stsq_nil _ _, stsq_nil _ _, stsq_nil _ _⟩⟩⟩
    · rw [hW2, Below.heap_alloc _ _ _ (by simp)]; exact World.alloc_heap_new w _
    · rw [hW2]
      have := World.alloc_heap_new (w.alloc (.cells #[.string ⟨#[]⟩, .slice none 0 0, .slice none 0 0, .slice none 0 0, .slice none 0 0, .slice none 0 0, .slice none 0 0, .int .i64 0] 31)) (.cells #[.string ⟨#[]⟩, .slice none 0 0, .slice none 0 0, .slice none 0 0, .slice none 0 0, .slice none 0 0, .slice none 0 0, .int .i64 (-1)] 31)
      rwa [World.size_alloc] at this
  have HSt := Lib.hid hst
  have HW2 := Lib.hid hW2
  have HZL := Lib.hid (show s.data.toList.length = s.size from (Lib.size_eq s).symm)
  obtain ⟨PA, hPA⟩ : ∃ PA, parseU s.data.toList = PA := ⟨_, rfl⟩
  rw [hPA]
  have HPA := Lib.hid hPA
  clear hst hW2 hPA
  go_enter Tryd.func8, Tryd.ntmps8
  go_wp2_with fail
  rw [← HW2.out]
  go_loopw [6, 7, 8] (fun fr n i wr => ∃ (k f : Nat) (done : List (List UInt8)) (u : UD) (cs : Array Value), i = .int .i64 k ∧ fr = .int .i64 f ∧ n = .int .i64 (done.length : Nat) ∧ k ≤ s.size + 1 ∧ done.length ≤ k ∧ Hid (RfSt w s done f k u cs wr)) (fun _ _ i _ => s.size + 1 - (intOf i).toNat)
  case atStart => exact ⟨0, 0, [], UD0, _, rfl, rfl, rfl, by omega, Nat.le_refl _, HSt⟩
  case round =>
    obtain ⟨k, f, done, u, cs, rfl, rfl, rfl, hk, hdk, HR⟩ := hrel
    have hfk := HR.out.prog.fk
    obtain ⟨ns, a0, a1, a2, a3, a4, a5, m0, m1, m2, m3, m4, m5, c0, c1, c2, c3, c4, c5, ru, hcs, hns, hm0, hru⟩ := HR.out.val.parts
    injection hcs with hcs
    subst hcs
    have HNS := Lib.hid hns
    have HM0 := Lib.hid hm0
    have HRU := Lib.hid hru
    obtain ⟨p0, p1, p2, p3, p4, p5, p6, p7⟩ := box_cells HR.out.cur
    clear hns hm0 hru
    by_cases hle : k ≤ s.size
    · by_cases hend : k = s.size
      · have e3 : ¬ (k : Int) < (s.size : Int) := by omega
        have HPr := Lib.hid (HR.out.prog.last (by rw [HZL.out]; exact hend))
        clear hend
        go_upto_region 8 with (fail)
        have hpe : s.extract f k = toB ((s.data.toList.drop f).take (k - f)) := by apply ByteArray.ext; rw [← Array.toList_inj, Lib.extract_data]
        have hpl : ((s.data.toList.drop f).take (k - f)).length ≤ 1000 := by rw [List.length_take, List.length_drop, HZL.out]; omega
        obtain ⟨p, hp⟩ : ∃ p, (s.data.toList.drop f).take (k - f) = p := ⟨_, rfl⟩
        rw [hp] at hpe hpl HPr
        have HE := Lib.hid hpe
        clear hpe hp
        go_cut [9] (fun a wc => a = .string (toB p) ∧ wc = wr)
        case first =>
          go_wp2_with fail
          go_meet
          exact ⟨by rw [HE.out], rfl⟩
        case rest =>
          obtain ⟨rfl, rfl⟩ := hcut
          obtain ⟨ps, hps⟩ : ∃ ps, toB p = ps := ⟨_, rfl⟩
          rw [hps]
          have hem : ps.toList.isEmpty = decide (p = []) := by rw [← hps, toList_toB, Bool.eq_iff_iff, List.isEmpty_iff, decide_eq_true_iff]
          have hpz : ps.size = p.length := by rw [← hps]; exact toB_size p
          have HPS := Lib.hid hps
          clear hps HE
          by_cases hp0 : p = []
          · rw [decide_eq_true hp0] at hem
            have HR2 := Lib.hid (HR.out.skip HPr.out (.inl hp0))
            clear hp0 hpz
            go_wp2_with fail
            go_roundw
            case rel => exact ⟨k + 1, k + 1, done ++ [p], u, _, by go_num, by go_num, by rw [List.length_append]; go_num, by omega, by rw [List.length_append]; show done.length + 1 ≤ k + 1; omega, HR2⟩
            case measure => simp [intOf]; omega
          · rw [decide_eq_false hp0] at hem
            have hp1 : 0 < ps.size := by rw [hpz]; exact List.length_pos_iff.2 hp0
            have hb := byte_35 (ps[0]'hp1)
            have hhd : p.head? = some (ps[0]'hp1) := by
              have := HPS.out
              subst this
              exact head_at (toB p) hp1
            by_cases h35 : p.head? = some 35
            · have h36 : ps[0]'hp1 = 35 := Option.some.inj (hhd.symm.trans h35)
              rw [decide_eq_true h36] at hb
              have HR2 := Lib.hid (HR.out.skip HPr.out (.inr h35))
              clear hp0 hpz h35 h36 hhd
              go_wp2_with fail
              go_roundw
              case rel => exact ⟨k + 1, k + 1, done ++ [p], u, _, by go_num, by go_num, by rw [List.length_append]; go_num, by omega, by rw [List.length_append]; show done.length + 1 ≤ k + 1; omega, HR2⟩
              case measure => simp [intOf]; omega
            · have h36 : ¬ ps[0]'hp1 = 35 := fun e => h35 (by rw [hhd, e])
              rw [decide_eq_false h36] at hb
              have hbi : ¬ ((ps[0]'hp1).toNat : Int) = 35 := by simpa using hb
              have hstep := step_line (u := u) (l := p) (by rintro (e | e); exact hp0 e; exact h35 e)
              have hok9 := HR.out.ok.step p
              have hrun9 := run_snoc HR.out.run p
              have hln := lineref_any (fun g => g ≠ w.heap.size ∧ g ≠ w.heap.size + 1) wc _ u ps (fun g hg => by have := HR.out.size; exact ⟨by omega, by omega⟩) HR.out.val (lists8 HR.out.ok) (by omega)
              rw [show ps.data.toList = p from by rw [← HPS.out], ← hstep] at hln
              obtain ⟨S9, hS9⟩ : ∃ S9, stepU u p = S9 := ⟨_, rfl⟩
              rw [hS9] at hln hok9 hrun9
              obtain ⟨u9, e9⟩ := S9
              dsimp only at hln hok9 hrun9
              obtain ⟨rest, hrest⟩ := HPr.out.split (by rw [HZL.out]; omega)
              have hfin : e9 ≠ 0 → PA = (e9, done.length + 1, UD0) := fun he => by
                rw [if_neg he] at hrun9
                rw [← HPA.out]
                unfold parseU
                rw [hrest, run_stop hrun9 he rest]
                unfold endU
                rw [if_pos he]
              have HFin := Lib.hid hfin
              have HOk9 := Lib.hid hok9
              have HRun9 := Lib.hid hrun9
              clear hp0 hpz h35 h36 hhd hstep hok9 hrun9 hrest hfin hS9
              go_wp2_with fail
              refine hln.mono ?_
              rintro e w3 ⟨⟨v9, rfl, hV9⟩, hb9⟩
              have HV9 := Lib.hid hV9
              obtain ⟨n9, b0, b1, b2, b3, b4, b5, k0, k1, k2, k3, k4, k5, d0, d1, d2, d3, d4, d5, r9, rfl, h91, h92, h93⟩ := hV9.parts
              clear h91 h92 h93
              obtain ⟨x3, hx3⟩ : ∃ x3, x3 = w3.alloc (.cells #[.string n9, .slice b0 k0 d0, .slice b1 k1 d1, .slice b2 k2 d2, .slice b3 k3 d3, .slice b4 k4 d4, .slice b5 k5 d5, .int .i64 r9] 31) := ⟨_, rfl⟩
              have al : Below w3.heap.size w3 x3 := by rw [hx3]; exact (Below.refl _ _).alloc (Nat.le_refl _) _
              have hb10 := hb9.trans (al.mono hb9.size)
              have HB3 := Lib.hid (HR.out.below.trans (hb10.mono HR.out.below.size))
              have HRes := Lib.hid ((hb10.block _ (lt_of_heap HR.out.res)).trans HR.out.res)
              have HCur := Lib.hid ((hb10.block _ (lt_of_heap HR.out.cur)).trans HR.out.cur)
              have HNew := Lib.hid (show x3.heap[w3.heap.size]? = some (.cells #[.string n9, .slice b0 k0 d0, .slice b1 k1 d1, .slice b2 k2 d2, .slice b3 k3 d3, .slice b4 k4 d4, .slice b5 k5 d5, .int .i64 r9] 31) from by rw [hx3]; exact World.alloc_heap_new w3 _)
              have HV9 := Lib.hid (HV9.out.later al)
              have HX3 := Lib.hid hx3
              clear hV9 hln hb9 al hb10 hx3 p0 p1 p2 p3 p4 p5 p6 p7
              go_upto_region 13 with (fail)
              rw [← HX3.out]
              obtain ⟨p0, p1, p2, p3, p4, p5, p6, p7⟩ := box_cells HCur.out
              obtain ⟨z0, z1, z2, z3, z4, z5, z6, z7⟩ := box_cells HRes.out
              obtain ⟨y0, y1, y2, y3, y4, y5, y6, y7⟩ := box_cells HNew.out
              have pf := fun j => free_at HCur.out j
              have zf := fun j => free_at HRes.out j
              by_cases he9 : e9 = 0
              · subst he9
                go_wp2_with fail
                rw [set8_eq HCur.out]
                have HR2 := Lib.hid (show RfSt w s (done ++ [p]) (k + 1) (k + 1) u9 #[.string n9, .slice b0 k0 d0, .slice b1 k1 d1, .slice b2 k2 d2, .slice b3 k3 d3, .slice b4 k4 d4, .slice b5 k5 d5, .int .i64 r9] (setBlock x3 (w.heap.size + 1) (.cells #[.string n9, .slice b0 k0 d0, .slice b1 k1 d1, .slice b2 k2 d2, .slice b3 k3 d3, .slice b4 k4 d4, .slice b5 k5 d5, .int .i64 r9] 31)) from
                  ⟨HPr.out, by have := HRun9.out; rw [if_pos rfl] at this; rw [this, List.length_append]; rfl, HOk9.out, below_turn HB3.out (Nat.le_succ _) HB3.out.size _, by rw [(setBlock_heap _ _ _ (lt_of_heap HCur.out)).2.2]; have := lt_of_heap HCur.out; omega, ((setBlock_heap _ _ _ (lt_of_heap HCur.out)).2.1 _ (by omega)).trans HRes.out, (setBlock_heap _ _ _ (lt_of_heap HCur.out)).1, HV9.out.turn (lt_of_heap HCur.out) (fun e => e.2 rfl) _⟩)
                go_roundw
                case rel => exact ⟨k + 1, k + 1, done ++ [p], u9, _, by go_num, by go_num, by rw [List.length_append]; go_num, by omega, by rw [List.length_append]; show done.length + 1 ≤ k + 1; omega, HR2⟩
                case measure => simp [intOf]; omega
              · have HE := Lib.hid (HFin.out he9)
                have he1 : (e9 == 0) = false := by rw [beq_eq_false_iff_ne]; exact he9
                have he2 : (e9 != 0) = true := by rw [bne_iff_ne]; exact he9
                go_wp2_with fail
                rw [set8_eq HRes.out]
                refine bodyPost_ret (ret_ref rfl rfl rfl (setBlock_heap _ _ _ (lt_of_heap HRes.out)).1) rfl ?_
                rw [HE.out]
                exact ⟨⟨_, rfl, unitw_zero _⟩, below_turn HB3.out (Nat.le_refl _) HB3.out.size _⟩
      · have hlt : k < s.size := by omega
        have e3 : (k : Int) < (s.size : Int) := by omega
        have hkl : k < s.data.toList.length := by rw [HZL.out]; exact hlt
        have hsk : s.data.toList[k] = s[k] := rfl
        have hb := byte_10 s[k]
        by_cases hc : s[k] = 10
        · rw [decide_eq_true hc] at hb
          have hbn : ((s[k].toNat : Int) != 10) = false := by rw [bne, hb]; rfl
          have HPr := Lib.hid (HR.out.prog.line hkl (by rw [hsk]; exact hc))
          clear hc hsk
          go_upto_region 8 with (fail)
          have hpe : s.extract f k = toB ((s.data.toList.drop f).take (k - f)) := by apply ByteArray.ext; rw [← Array.toList_inj, Lib.extract_data]
          have hpl : ((s.data.toList.drop f).take (k - f)).length ≤ 1000 := by rw [List.length_take, List.length_drop, HZL.out]; omega
          obtain ⟨p, hp⟩ : ∃ p, (s.data.toList.drop f).take (k - f) = p := ⟨_, rfl⟩
          rw [hp] at hpe hpl HPr
          have HE := Lib.hid hpe
          clear hpe hp
          go_cut [9] (fun a wc => a = .string (toB p) ∧ wc = wr)
          case first =>
            go_wp2_with fail
            go_meet
            exact ⟨by rw [HE.out], rfl⟩
          case rest =>
            obtain ⟨rfl, rfl⟩ := hcut
            obtain ⟨ps, hps⟩ : ∃ ps, toB p = ps := ⟨_, rfl⟩
            rw [hps]
            have hem : ps.toList.isEmpty = decide (p = []) := by rw [← hps, toList_toB, Bool.eq_iff_iff, List.isEmpty_iff, decide_eq_true_iff]
            have hpz : ps.size = p.length := by rw [← hps]; exact toB_size p
            have HPS := Lib.hid hps
            clear hps HE
            by_cases hp0 : p = []
            · rw [decide_eq_true hp0] at hem
              have HR2 := Lib.hid (HR.out.skip HPr.out (.inl hp0))
              clear hp0 hpz
              go_wp2_with fail
              go_roundw
              case rel => exact ⟨k + 1, k + 1, done ++ [p], u, _, by go_num, by go_num, by rw [List.length_append]; go_num, by omega, by rw [List.length_append]; show done.length + 1 ≤ k + 1; omega, HR2⟩
              case measure => simp [intOf]; omega
            · rw [decide_eq_false hp0] at hem
              have hp1 : 0 < ps.size := by rw [hpz]; exact List.length_pos_iff.2 hp0
              have hb := byte_35 (ps[0]'hp1)
              have hhd : p.head? = some (ps[0]'hp1) := by
                have := HPS.out
                subst this
                exact head_at (toB p) hp1
              by_cases h35 : p.head? = some 35
              · have h36 : ps[0]'hp1 = 35 := Option.some.inj (hhd.symm.trans h35)
                rw [decide_eq_true h36] at hb
                have HR2 := Lib.hid (HR.out.skip HPr.out (.inr h35))
                clear hp0 hpz h35 h36 hhd
                go_wp2_with fail
                go_roundw
                case rel => exact ⟨k + 1, k + 1, done ++ [p], u, _, by go_num, by go_num, by rw [List.length_append]; go_num, by omega, by rw [List.length_append]; show done.length + 1 ≤ k + 1; omega, HR2⟩
                case measure => simp [intOf]; omega
              · have h36 : ¬ ps[0]'hp1 = 35 := fun e => h35 (by rw [hhd, e])
                rw [decide_eq_false h36] at hb
                have hbi : ¬ ((ps[0]'hp1).toNat : Int) = 35 := by simpa using hb
                have hstep := step_line (u := u) (l := p) (by rintro (e | e); exact hp0 e; exact h35 e)
                have hok9 := HR.out.ok.step p
                have hrun9 := run_snoc HR.out.run p
                have hln := lineref_any (fun g => g ≠ w.heap.size ∧ g ≠ w.heap.size + 1) wc _ u ps (fun g hg => by have := HR.out.size; exact ⟨by omega, by omega⟩) HR.out.val (lists8 HR.out.ok) (by omega)
                rw [show ps.data.toList = p from by rw [← HPS.out], ← hstep] at hln
                obtain ⟨S9, hS9⟩ : ∃ S9, stepU u p = S9 := ⟨_, rfl⟩
                rw [hS9] at hln hok9 hrun9
                obtain ⟨u9, e9⟩ := S9
                dsimp only at hln hok9 hrun9
                obtain ⟨rest, hrest⟩ := HPr.out.split (by rw [HZL.out]; omega)
                have hfin : e9 ≠ 0 → PA = (e9, done.length + 1, UD0) := fun he => by
                  rw [if_neg he] at hrun9
                  rw [← HPA.out]
                  unfold parseU
                  rw [hrest, run_stop hrun9 he rest]
                  unfold endU
                  rw [if_pos he]
                have HFin := Lib.hid hfin
                have HOk9 := Lib.hid hok9
                have HRun9 := Lib.hid hrun9
                clear hp0 hpz h35 h36 hhd hstep hok9 hrun9 hrest hfin hS9
                go_wp2_with fail
                refine hln.mono ?_
                rintro e w3 ⟨⟨v9, rfl, hV9⟩, hb9⟩
                have HV9 := Lib.hid hV9
                obtain ⟨n9, b0, b1, b2, b3, b4, b5, k0, k1, k2, k3, k4, k5, d0, d1, d2, d3, d4, d5, r9, rfl, h91, h92, h93⟩ := hV9.parts
                clear h91 h92 h93
                obtain ⟨x3, hx3⟩ : ∃ x3, x3 = w3.alloc (.cells #[.string n9, .slice b0 k0 d0, .slice b1 k1 d1, .slice b2 k2 d2, .slice b3 k3 d3, .slice b4 k4 d4, .slice b5 k5 d5, .int .i64 r9] 31) := ⟨_, rfl⟩
                have al : Below w3.heap.size w3 x3 := by rw [hx3]; exact (Below.refl _ _).alloc (Nat.le_refl _) _
                have hb10 := hb9.trans (al.mono hb9.size)
                have HB3 := Lib.hid (HR.out.below.trans (hb10.mono HR.out.below.size))
                have HRes := Lib.hid ((hb10.block _ (lt_of_heap HR.out.res)).trans HR.out.res)
                have HCur := Lib.hid ((hb10.block _ (lt_of_heap HR.out.cur)).trans HR.out.cur)
                have HNew := Lib.hid (show x3.heap[w3.heap.size]? = some (.cells #[.string n9, .slice b0 k0 d0, .slice b1 k1 d1, .slice b2 k2 d2, .slice b3 k3 d3, .slice b4 k4 d4, .slice b5 k5 d5, .int .i64 r9] 31) from by rw [hx3]; exact World.alloc_heap_new w3 _)
                have HV9 := Lib.hid (HV9.out.later al)
                have HX3 := Lib.hid hx3
                clear hV9 hln hb9 al hb10 hx3 p0 p1 p2 p3 p4 p5 p6 p7
                go_upto_region 13 with (fail)
                rw [← HX3.out]
                obtain ⟨p0, p1, p2, p3, p4, p5, p6, p7⟩ := box_cells HCur.out
                obtain ⟨z0, z1, z2, z3, z4, z5, z6, z7⟩ := box_cells HRes.out
                obtain ⟨y0, y1, y2, y3, y4, y5, y6, y7⟩ := box_cells HNew.out
                have pf := fun j => free_at HCur.out j
                have zf := fun j => free_at HRes.out j
                by_cases he9 : e9 = 0
                · subst he9
                  go_wp2_with fail
                  rw [set8_eq HCur.out]
                  have HR2 := Lib.hid (show RfSt w s (done ++ [p]) (k + 1) (k + 1) u9 #[.string n9, .slice b0 k0 d0, .slice b1 k1 d1, .slice b2 k2 d2, .slice b3 k3 d3, .slice b4 k4 d4, .slice b5 k5 d5, .int .i64 r9] (setBlock x3 (w.heap.size + 1) (.cells #[.string n9, .slice b0 k0 d0, .slice b1 k1 d1, .slice b2 k2 d2, .slice b3 k3 d3, .slice b4 k4 d4, .slice b5 k5 d5, .int .i64 r9] 31)) from
                    ⟨HPr.out, by have := HRun9.out; rw [if_pos rfl] at this; rw [this, List.length_append]; rfl, HOk9.out, below_turn HB3.out (Nat.le_succ _) HB3.out.size _, by rw [(setBlock_heap _ _ _ (lt_of_heap HCur.out)).2.2]; have := lt_of_heap HCur.out; omega, ((setBlock_heap _ _ _ (lt_of_heap HCur.out)).2.1 _ (by omega)).trans HRes.out, (setBlock_heap _ _ _ (lt_of_heap HCur.out)).1, HV9.out.turn (lt_of_heap HCur.out) (fun e => e.2 rfl) _⟩)
                  go_roundw
                  case rel => exact ⟨k + 1, k + 1, done ++ [p], u9, _, by go_num, by go_num, by rw [List.length_append]; go_num, by omega, by rw [List.length_append]; show done.length + 1 ≤ k + 1; omega, HR2⟩
                  case measure => simp [intOf]; omega
                · have HE := Lib.hid (HFin.out he9)
                  have he1 : (e9 == 0) = false := by rw [beq_eq_false_iff_ne]; exact he9
                  have he2 : (e9 != 0) = true := by rw [bne_iff_ne]; exact he9
                  go_wp2_with fail
                  rw [set8_eq HRes.out]
                  refine bodyPost_ret (ret_ref rfl rfl rfl (setBlock_heap _ _ _ (lt_of_heap HRes.out)).1) rfl ?_
                  rw [HE.out]
                  exact ⟨⟨_, rfl, unitw_zero _⟩, below_turn HB3.out (Nat.le_refl _) HB3.out.size _⟩
        · rw [decide_eq_false hc] at hb
          have hbn : ((s[k].toNat : Int) != 10) = true := by rw [bne, hb]; rfl
          have hbi : ¬ (s[k].toNat : Int) = 10 := by simpa using hb
          have HPr := Lib.hid (HR.out.prog.next hkl (by rw [hsk]; exact hc))
          clear hc hsk
          go_wp2_with fail
          go_roundw
          case rel => exact ⟨k + 1, f, done, u, _, by go_num, rfl, rfl, by omega, by omega, Lib.hid ⟨HPr.out, HR.out.run, HR.out.ok, HR.out.below, HR.out.size, HR.out.res, HR.out.cur, HR.out.val⟩⟩
          case measure => simp [intOf]; omega
    · have hall := HR.out.prog.off (by rw [HZL.out]; omega)
      have hpu : PA = endU (0, done.length, u) := by rw [← HPA.out]; unfold parseU; rw [hall, HR.out.run]
      have HPU := Lib.hid hpu
      have hem : ns.toList.isEmpty = decide (u.name = []) := by rw [HNS.out, toList_toB, Bool.eq_iff_iff, List.isEmpty_iff, decide_eq_true_iff]
      have hk1 : ¬ (k : Int) ≤ (s.size : Int) := by omega
      obtain ⟨z0, z1, z2, z3, z4, z5, z6, z7⟩ := box_cells HR.out.res
      have pf := fun j => free_at HR.out.cur j
      have zf := fun j => free_at HR.out.res j
      have hsz := HR.out.size
      clear hall hpu
      by_cases hn : u.name = []
      · rw [decide_eq_true hn] at hem
        have HE := Lib.hid (show PA = (8, 0, UD0) from by rw [HPU.out]; unfold endU; rw [if_neg (fun h => h rfl), if_pos (.inl hn)])
        clear hn
        go_wp2_with fail
        rw [set8_eq HR.out.res]
        refine bodyPost_ret (ret_ref rfl rfl rfl (setBlock_heap _ _ _ (lt_of_heap HR.out.res)).1) rfl ?_
        rw [HE.out]
        exact ⟨⟨_, rfl, unitw_zero _⟩, below_turn HR.out.below (Nat.le_refl _) HR.out.below.size _⟩
      · rw [decide_eq_false hn] at hem
        by_cases hm : m0 = 0
        · have HE := Lib.hid (show PA = (8, 0, UD0) from by rw [HPU.out]; unfold endU; rw [if_neg (fun h => h rfl), if_pos (.inr (List.length_eq_zero_iff.1 (HM0.out.symm.trans hm)))])
          obtain rfl : m0 = 0 := hm
          clear hn
          go_wp2_with fail
          rw [set8_eq HR.out.res]
          refine bodyPost_ret (ret_ref rfl rfl rfl (setBlock_heap _ _ _ (lt_of_heap HR.out.res)).1) rfl ?_
          rw [HE.out]
          exact ⟨⟨_, rfl, unitw_zero _⟩, below_turn HR.out.below (Nat.le_refl _) HR.out.below.size _⟩
        · have HE := Lib.hid (show PA = (0, 0, u) from by rw [HPU.out]; unfold endU; rw [if_neg (fun h => h rfl), if_neg (by rintro (h | h); exact hn h; exact hm (by rw [HM0.out, h]; rfl))])
          have hm1 : ((m0 : Int) == 0) = false := by rw [beq_eq_false_iff_ne]; omega
          clear hn
          cases hrt : u.retry with
          | none =>
            have hr1 : ru = -1 := by rw [HRU.out]; unfold refR; rw [hrt]
            have hr2 : ru < 0 := by omega
            have HR0 := Lib.hid (show retU u = 0 from by unfold retU; rw [hrt]; rfl)
            clear hrt hr1
            go_wp2_with fail
            rw [set_at HR.out.cur 7]
            have hb1 := HR.out.below
            have hz4 : (setBlock wr (w.heap.size + 1) (.cells (#[.string ns, .slice a0 m0 c0, .slice a1 m1 c1, .slice a2 m2 c2, .slice a3 m3 c3, .slice a4 m4 c4, .slice a5 m5 c5, .int .i64 ru].setIfInBounds 7 (.int .i64 0)) 31)).heap[w.heap.size]? = some (.cells #[.string ⟨#[]⟩, .slice none 0 0, .slice none 0 0, .slice none 0 0, .slice none 0 0, .slice none 0 0, .slice none 0 0, .int .i64 0] 31) := ((setBlock_heap _ _ _ (lt_of_heap HR.out.cur)).2.1 _ (by omega)).trans HR.out.res
            rw [set8_eq hz4]
            have hbU := below_turn hb1 (Nat.le_succ _) hb1.size (b := w.heap.size + 1) (.cells (#[.string ns, .slice a0 m0 c0, .slice a1 m1 c1, .slice a2 m2 c2, .slice a3 m3 c3, .slice a4 m4 c4, .slice a5 m5 c5, .int .i64 ru].setIfInBounds 7 (.int .i64 0)) 31)
            refine bodyPost_ret (ret_ref rfl rfl rfl (setBlock_heap _ _ _ (lt_of_heap hz4)).1) rfl ?_
            rw [HE.out]
            have hv := ((HR.out.val.turn (lt_of_heap HR.out.cur) (fun e => e.2 rfl) (.cells (#[.string ns, .slice a0 m0 c0, .slice a1 m1 c1, .slice a2 m2 c2, .slice a3 m3 c3, .slice a4 m4 c4, .slice a5 m5 c5, .int .i64 ru].setIfInBounds 7 (.int .i64 0)) 31)).turn (lt_of_heap hz4) (fun e => e.1 rfl) (.cells (#[.string ns, .slice a0 m0 c0, .slice a1 m1 c1, .slice a2 m2 c2, .slice a3 m3 c3, .slice a4 m4 c4, .slice a5 m5 c5, .int .i64 ru].setIfInBounds 7 (.int .i64 0)) 31)).w
            obtain ⟨x0, x1, x2, x3, x4, x5, y0, y1, y2, y3, y4, y5, q1, q2, q3⟩ := hv
            injection q1 with q1
            injection q1 with q1
            simp only [List.cons.injEq, and_true] at q1
            obtain ⟨r0, r1, r2, r3, r4, r5, r6, r7⟩ := q1
            subst r1 r2 r3 r4 r5 r6
            exact ⟨⟨_, rfl, _, _, _, _, _, _, y0, y1, y2, y3, y4, y5, by rw [r0, HR0.out], q2, q3⟩, below_turn hbU (Nat.le_refl _) hbU.size _⟩
          | some d =>
            have hr2 : ¬ ru < 0 := by rw [HRU.out]; unfold refR; rw [hrt]; exact Int.not_lt.2 (Int.natCast_nonneg _)
            have HR0 := Lib.hid (show retU u = ru from by rw [HRU.out]; unfold retU refR; rw [hrt]; rfl)
            clear hrt
            go_wp2_with fail
            have hb1 := HR.out.below
            rw [set8_eq HR.out.res]
            refine bodyPost_ret (ret_ref rfl rfl rfl (setBlock_heap _ _ _ (lt_of_heap HR.out.res)).1) rfl ?_
            rw [HE.out]
            have hv := (HR.out.val.turn (lt_of_heap HR.out.res) (fun e => e.1 rfl) (.cells #[.string ns, .slice a0 m0 c0, .slice a1 m1 c1, .slice a2 m2 c2, .slice a3 m3 c3, .slice a4 m4 c4, .slice a5 m5 c5, .int .i64 ru] 31)).w
            rw [← HRU.out] at hv
            exact ⟨⟨_, rfl, by show UnitW _ _ u.name u.ls (retU u); rw [HR0.out]; exact hv⟩, below_turn hb1 (Nat.le_refl _) hb1.size _⟩
end Go.Proofs.YtmnohaefklglfaaDoor
