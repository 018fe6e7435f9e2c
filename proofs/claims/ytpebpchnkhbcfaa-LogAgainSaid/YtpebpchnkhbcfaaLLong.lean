/- 'LogLong': for whatever numbers the law returns true, and writes nothing that was there. -/
import Derived.Test.YtpebpchnkhbcfaaLAlive
namespace Go.Proofs.Ytpebpchnkhbcfaa
open Go.RowKit
set_option linter.unusedVariables false
set_option linter.unusedSimpArgs false

theorem and_mask (q : Int) (c : Nat) (hc : c < 4294967296) : ∃ m : Nat, bits .and .i64 q (c : Int) = (m : Int) ∧ m ≤ c := by
  refine ⟨((BitVec.ofInt 64 q) &&& BitVec.ofInt 64 (c : Int)).toNat, ?_, ?_⟩
  · show IntKind.i64.wrap ((BitVec.ofInt 64 q &&& BitVec.ofInt 64 (c : Int)).toNat : Int) = _
    have h : ((BitVec.ofInt 64 q) &&& BitVec.ofInt 64 (c : Int)).toNat ≤ c := by
      rw [BitVec.toNat_and, BitVec.ofInt_natCast, BitVec.toNat_ofNat, Nat.mod_eq_of_lt (by omega)]; exact Nat.and_le_right
    exact IntWalk.i64_in _ (by omega)
  · rw [BitVec.toNat_and, BitVec.ofInt_natCast, BitVec.toNat_ofNat, Nat.mod_eq_of_lt (by omega)]; exact Nat.and_le_right
theorem Live.to {D : Dk} {n h side used st st' : Nat} {recs : List (List Int)} (H : Live D n h side used recs st) (hs : st ≤ st') : Live D n h side used recs st' :=
  ⟨H.clean, H.up, H.len, H.half, H.holds, by have := H.steps; omega⟩
/-- A list in rows of the call's own, wherever they stand. -/
theorem parts_in {W0 : Base} {w : World} {X : List Rw} {lv : Value} {vs : List Value} {recs : List (List Int)} (hO : Own W0 w X) (hm : rowV lv vs ∈ X) (hL : Lst X vs recs) : ∃ a c, lv = .slice a vs.length c ∧ Parts w a (vs.zip recs) ∧ vs.length ≤ maxLen := hL.parts hO (hO.only hm)
theorem same_lists {W0 : Base} {w : World} {X : List Rw} {lv lv2 : Value} {vs vs2 : List Value} {recs recs2 : List (List Int)} (hO : Own W0 w X) (hm : rowV lv vs ∈ X) (hL : Lst X vs recs) (hm2 : rowV lv2 vs2 ∈ X) (hL2 : Lst X vs2 recs2) :
    Calls Try.prog 13 #[lv, lv2] w fun e w' => e = .returned (.bool (decide (recs = recs2))) ∧ ∃ m, w' = w.drewN m := by
  obtain ⟨a, c, rfl, hP, h1⟩ := parts_in hO hm hL
  obtain ⟨a2, c2, rfl, hP2, h2⟩ := parts_in hO hm2 hL2
  have e1 : (vs.zip recs).length = vs.length := by rw [List.length_zip, ← hL.1, Nat.min_self]
  have e2 : (vs2.zip recs2).length = vs2.length := by rw [List.length_zip, ← hL2.1, Nat.min_self]
  have := same_any a a2 c c2 (vs.zip recs) (vs2.zip recs2) w hP hP2 (by rw [e1]; exact h1) (by rw [e2]; exact h2)
  rw [e1, e2, zip_recs vs recs hL.1, zip_recs vs2 recs2 hL2.1] at this
  exact this
theorem same_yes {W0 : Base} {w : World} {X : List Rw} {lv lv2 : Value} {vs vs2 : List Value} {recs : List (List Int)} (hO : Own W0 w X) (hm : rowV lv vs ∈ X) (hL : Lst X vs recs) (hm2 : rowV lv2 vs2 ∈ X) (hL2 : Lst X vs2 recs) :
    Calls Try.prog 13 #[lv, lv2] w fun e w' => e = .returned (.bool true) ∧ ∃ m, w' = w.drewN m := by
  have := same_lists hO hm hL hm2 hL2
  rw [decide_eq_true rfl] at this
  exact this
theorem list_form {W0 : Base} {w : World} {lv : Value} {vs : List Value} {L : List Rw} (h : Own W0 w (rowV lv vs :: L)) : ∃ a c, lv = .slice a vs.length c := by
  obtain ⟨a, c, hv, _⟩ := Own.sized (h := h)
  exact ⟨a, c, hv⟩
def some4 : List Int := [115, 111, 109, 101]
theorem some4_byts : Byts some4 := by unfold Byts some4; decide
theorem LgAt.zerosN {W0 : Base} {w : World} {l d : Nat} {D : Dk} {side used : Nat} {recs : List (List Int)} {dead : Bool} {L : List Rw} (h : LgAt W0 w l d D side used recs dead L) (n : Nat) (hn : n ≤ 1000000) : LgAt W0 (w.alloc (.cells (madeCells #[.int .u8 0] n) 5)) l d D side used recs dead (rowU (.slice (some ⟨w.heap.size, 0, none⟩) n n) (List.replicate n 0) :: L) := by
  have := (Own.start w).zerosN n hn
  have e : (⟨5, 1, .slice (some ⟨w.heap.size, 0, none⟩) n n, n, bs (List.replicate n 0)⟩ : Rw) = rowU (.slice (some ⟨w.heap.size, 0, none⟩) n n) (List.replicate n 0) := by unfold rowU; rw [List.length_replicate]
  rw [e] at this
  exact h.join this
theorem LgAt.box2 {W0 : Base} {w : World} {l d : Nat} {D : Dk} {side used : Nat} {recs : List (List Int)} {dead : Bool} {L : List Rw} (h : LgAt W0 w l d D side used recs dead L) (u v : Value) : LgAt W0 (w.alloc (.cells #[u, v] 30)) l d D side used recs dead (rowV (.slice (some ⟨w.heap.size, 0, none⟩) 2 2) [u, v] :: L) :=
  h.join ((Own.start w).made 30 1 #[u, v] 2 rfl (by unfold maxLen; decide))
theorem two_parts {W0 : Base} {w : World} {g : Nat} {u v : Value} {a b : List Int} {L : List Rw} (hu : By w u a) (hv : By w v b) (h : Own W0 w (rowV (.slice (some ⟨g, 0, none⟩) 2 2) [u, v] :: L)) : Parts w (some ⟨g, 0, none⟩) [(u, a), (v, b)] := by
  intro i hi
  have h' : Own W0 w (⟨30, 1, .slice (some ⟨g, 0, none⟩) 2 2, 2, [u, v]⟩ :: L) := h
  have hi2 : i < 2 := by simpa using hi
  rcases (show i = 0 ∨ i = 1 by omega) with rfl | rfl
  · exact ⟨g, 0, rfl, Own.cell (h := h') 0 (by decide), hu⟩
  · exact ⟨g, 0, rfl, Own.cell (h := h') 1 (by decide), hv⟩
/-- A list that is too long to be written anew, whatever else stands in it. -/
theorem rewrite_no {W0 : Base} {w : World} {l d n h side used st : Nat} {D : Dk} {recs : List (List Int)} {L : List Rw} (hA : LgAt W0 w l d D side used recs false L) (hV : Live D n h side used recs st) (hst : st ≤ 1000000000) (a : Option Addr) (c : Nat) (PS : List (Value × List Int)) (hP : ∀ w', Own W0 w' L → Parts w' a PS) (hn : PS.length ≤ 1000000) (code : Int) (hcode : code = refM false false h (PS.map (·.2))) (hne : code ≠ 0) :
    Calls Try.prog 15 #[.pointer (some ⟨l, 0, none⟩), .slice a PS.length c] w fun e w' => e = .returned (.int .i64 code) ∧ LgAt W0 w' l d D side used recs false L := by
  have hs := hV.steps
  refine rewrite_lg hA a c PS _ rfl hP hn hV.clean (by omega) code (by rw [hcode, hV.up, hV.len, ← hV.half]) _ (fun w' _ h2 => ⟨rfl, by rw [hV.up] at h2; exact h2⟩) (fun w' h1 => absurd h1 hne) (fun w' h1 => absurd h1 hne)

def LongAt (w : World) (l d m : Nat) (t : Value) (wr : World) : Prop := ∃ (i : Nat) (B : Base) (D : Dk), B.world = w ∧ i ≤ m ∧ t = .int .i64 i ∧ LgAt B wr l d D 0 i (List.replicate i some4) false [] ∧ Live D 300 149 0 i (List.replicate i some4) (3 + 100 * i) ∧ D.left = 0

set_option maxHeartbeats 6400000 in
set_option maxRecDepth 100000 in
theorem long_any (size list : Int) (w : World) : Calls Try.prog 4 #[.int .i64 size, .int .i64 list] w fun e w' => e = .returned (.bool true) ∧ Below w.heap.size w w' := by
  obtain ⟨s, hs, hsb⟩ := and_mask size 8191 (by decide)
  obtain ⟨m, hm, hmb⟩ := and_mask list 7 (by decide)
  have hs : bits BinOp.and IntKind.i64 size 8191 = (s : Int) := hs
  have hm : bits BinOp.and IntKind.i64 list 7 = (m : Int) := hm
  have hcs := conv_const
  go_enter Try.func4, Try.ntmps4
  go_wp2_with fail
  refine (alive_any w).mono ?_
  rintro e w0 ⟨rfl, hb0⟩
  have HO0 := Lib.hid (Own.of_below hb0)
  clear hb0
  go_wp2_with fail
  refine (new_pos _ w0 [] 300 HO0.out (by decide) (by decide)).mono ?_
  rintro e w1 ⟨d, rfl, hA1⟩
  have HA1 := Lib.hid hA1
  clear hA1
  go_wp2_with fail
  refine (open_new HA1.out (by decide) (by decide)).mono ?_
  rintro e w2 ⟨l, D, rfl, hA2, hV2, hl2⟩
  have HS := Lib.hid (show LongAt w l d m (.int .i64 0) w2 from ⟨0, _, D, rfl, Nat.zero_le _, rfl, hA2, hV2, hl2⟩)
  clear hA2 hV2 hl2 HA1 HO0
  go_wp2_with fail
  go_loopw [25] (fun t wr => LongAt w l d m t wr) (fun t _ => 8 - (intOf t).toNat)
  case atStart => exact HS.out
  case round =>
    obtain ⟨i, B, D, hB, hi, rfl, hA, hV, hlf⟩ := hrel
    by_cases hlt : i < m
    · have HA := Lib.hid (hA.fix (.cells #[.int .u8 115, .int .u8 111, .int .u8 109, .int .u8 101] 5 (4, 5)))
      have HV := Lib.hid hV
      have Hlf := Lib.hid hlf
      have HB := Lib.hid hB
      clear hA hV hlf hB
      go_wp2_with fail
      refine (append_yes HA.out HV.out (by omega) (.slice (some ⟨wr.heap.size, 0, none⟩) 4 4) some4 (fix_by (List.mem_cons_self ..) rfl some4_byts (by decide)) (by decide) (by show i + 1 ≤ 149; omega)).mono ?_
      rintro e w3 (⟨D3, rfl, hA3, hV3, hl3⟩ | ⟨_, h, _⟩)
      case inr => exact absurd Hlf.out h
      have HF := Lib.hid (show LongAt w l d m (.int .i64 ((i + 1 : Nat) : Int)) w3 from ⟨i + 1, ⟨B.world, (wr.heap.size, .cells #[.int .u8 115, .int .u8 111, .int .u8 109, .int .u8 101] 5 (4, 5)) :: B.maps⟩, D3, HB.out, by omega, rfl, by rw [List.replicate_succ']; exact hA3, by rw [List.replicate_succ']; exact hV3.to (by omega), hl3 Hlf.out⟩)
      clear hA3 hV3 hl3 HA HV HS
      go_wp2_with fail
      exact ⟨by have := HF.out; simpa using this, by simp [intOf]; omega⟩
    · obtain rfl : i = m := by omega
      have HA := Lib.hid hA
      have HV := Lib.hid hV
      have Hlf := Lib.hid hlf
      have HB := Lib.hid hB
      clear hA hV hlf hB HS
      obtain ⟨rec, hrec⟩ : ∃ rec, List.replicate i some4 = rec := ⟨_, rfl⟩
      rw [hrec] at HA HV
      have Hrec := Lib.hid (show rec.length ≤ 1000000 from HV.out.many)
      have Hrl := Lib.hid (show rec.length = i by rw [← hrec, List.length_replicate])
      clear hrec
      go_wp2_with fail
      refine (list_any HA.out HV.out.holds.all Hrec.out).mono ?_
      rintro e w3 ⟨lv, vs, M, rfl, hO3, hL3⟩
      have HA3 := Lib.hid (HA.out.join hO3)
      have HL3 := Lib.hid hL3
      obtain ⟨a3, c3, rfl⟩ := list_form hO3
      clear hO3 hL3 HA
      go_wp2_with fail
      refine (left_any HA3.out).mono ?_
      rintro e w4 ⟨rfl, n4, rfl⟩
      rw [HV.out.len]
      have HA4 := Lib.hid (HA3.out.drewN (n := n4))
      clear HA3
      generalize w3.drewN n4 = w4 at *
      have hmk := makeB s (by omega)
      have HA5 := Lib.hid (HA4.out.zerosN s (by omega))
      go_wp2_with fail
      have hbz : ∀ w', Own B w' (rowU (.slice (some ⟨w4.heap.size, 0, none⟩) s s) (List.replicate s 0) :: ((rowV (.slice a3 vs.length c3) vs :: M) ++ [])) → By w' (.slice (some ⟨w4.heap.size, 0, none⟩) s s) (List.replicate s 0) := row_by (List.mem_cons_self ..) (zeros_byts s)
      have Hbz := Lib.hid hbz
      clear hbz
      have hzl : (List.replicate s (0 : Int)).length = s := List.length_replicate
      have Hzl := Lib.hid hzl
      have hvl := HL3.out.1
      rw [Hrl.out] at hvl
      have Hvl := Lib.hid hvl
      obtain ⟨lf, hlf⟩ : ∃ lf, (300 - 2) / 2 - i = lf := ⟨_, rfl⟩
      have hlf9 : lf = 149 - i := hlf.symm
      have Hlff := Lib.hid hlf9
      rw [hlf]
      clear hzl hvl hlf hlf9
      by_cases hbig : 4096 < s
      · have hbl : 4096 < (List.replicate s (0 : Int)).length := by rw [Hzl.out]; exact hbig
        refine (append_no HA5.out HV.out (by omega) (.slice (some ⟨w4.heap.size, 0, none⟩) s s) (List.replicate s 0) Hbz.out 6 (refM_long _ _ _ (List.mem_singleton.2 rfl) hbl).symm (by decide)).mono ?_
        rintro e w6 ⟨rfl, hA6⟩
        have HA6 := Lib.hid hA6
        have Hbl := Lib.hid hbl
        clear hA6 HA5 HA4 hmk hbl
        go_wp2_with fail
        refine (list_any HA6.out HV.out.holds.all HV.out.many).mono ?_
        rintro e w7 ⟨lv7, vs7, M7, rfl, hO7, hL7⟩
        have HA7 := Lib.hid (HA6.out.join hO7)
        have HS7 := Lib.hid (same_yes HA7.out.own (lv := lv7) (vs := vs7) (recs := rec) (lv2 := .slice a3 vs.length c3) (vs2 := vs) (by simp) (hL7.mono fun y hy => by simp [hy]) (by simp) (HL3.out.mono fun y hy => by simp [hy]))
        obtain ⟨a7, c7, rfl⟩ := list_form hO7
        clear hO7 hL7 HA6
        go_wp2_with fail
        refine HS7.out.mono ?_
        rintro e w8 ⟨rfl, n8, rfl⟩
        have HA8 := Lib.hid (HA7.out.drewN (n := n8))
        clear HA7 HS7
        generalize w7.drewN n8 = w8 at *
        have Hleft8 := Lib.hid (left_any HA8.out)
        rw [HV.out.len] at Hleft8
        obtain ⟨lf8, hlf8⟩ : ∃ lf8, (300 - 2) / 2 - i = lf8 := ⟨_, rfl⟩
        rw [hlf8] at Hleft8
        obtain rfl : lf8 = lf := by have := Hlff.out; omega
        clear hlf8
        go_wp2_with fail
        refine Hleft8.out.mono ?_
        rintro e w9 ⟨rfl, n9, rfl⟩
        have HA9 := Lib.hid (HA8.out.drewN (n := n9))
        clear HA8 Hleft8
        generalize w8.drewN n9 = w9 at *
        have hmk := makeB s (by omega)
        have HA10 := Lib.hid ((HA9.out.zerosN s (by omega)).box2 (.slice none 0 0) (.slice (some ⟨w9.heap.size, 0, none⟩) s s))
        have hsz : (w9.alloc (.cells (madeCells #[.int .u8 0] s) 5)).heap.size = w9.heap.size + 1 := by simp
        rw [hsz] at HA10
        have hPx : ∀ {X : List Rw} w', Own B w' (rowV (.slice (some ⟨w9.heap.size + 1, 0, none⟩) 2 2) [.slice none 0 0, .slice (some ⟨w9.heap.size, 0, none⟩) s s] :: rowU (.slice (some ⟨w9.heap.size, 0, none⟩) s s) (List.replicate s 0) :: X) → Parts w' (some ⟨w9.heap.size + 1, 0, none⟩) [(.slice none 0 0, []), (.slice (some ⟨w9.heap.size, 0, none⟩) s s, List.replicate s 0)] :=
          fun w' h => two_parts (By.nil w') (row_by (by simp) (zeros_byts s) w' h) h
        have HPx := Lib.hid (fun X : List Rw => @hPx X)
        clear hPx hsz
        go_wp2_with fail
        refine (rewrite_no HA10.out HV.out (by omega) (some ⟨w9.heap.size + 1, 0, none⟩) 2 [(.slice none 0 0, []), (.slice (some ⟨w9.heap.size, 0, none⟩) s s, List.replicate s 0)] (HPx.out _) (by simp) 6 (refM_long _ _ (List.replicate s 0) (by simp) Hbl.out).symm (by decide)).mono ?_
        rintro e w11 ⟨rfl, hA11⟩
        have HA11 := Lib.hid hA11
        clear hA11 HA10 HPx HA9 hmk
        go_wp2_with fail
        refine (list_any HA11.out HV.out.holds.all HV.out.many).mono ?_
        rintro e w12 ⟨lv12, vs12, M12, rfl, hO12, hL12⟩
        have HA12 := Lib.hid (HA11.out.join hO12)
        have HS12 := Lib.hid (same_yes HA12.out.own (lv := lv12) (vs := vs12) (recs := rec) (lv2 := .slice a3 vs.length c3) (vs2 := vs) (by simp) (hL12.mono fun y hy => by simp [hy]) (by simp) (HL3.out.mono fun y hy => by simp [hy]))
        obtain ⟨a12, c12, rfl⟩ := list_form hO12
        clear hO12 hL12 HA11
        go_wp2_with fail
        refine HS12.out.mono ?_
        rintro e w13 ⟨rfl, n13, rfl⟩
        go_wp2_with fail
        go_ret
        exact ⟨rfl, by have := (HA12.out.drewN (n := n13)).below; rw [HB.out] at this; exact this⟩
      · obtain ⟨R, hR⟩ : ∃ R, roomM s = R := ⟨_, rfl⟩
        have hRb : R ≤ 66 := by rw [← hR]; unfold roomM; omega
        have HR := Lib.hid hR
        clear hR
        refine (append_yes HA5.out HV.out (by omega) (.slice (some ⟨w4.heap.size, 0, none⟩) s s) (List.replicate s 0) Hbz.out (by rw [Hzl.out]; omega) (by rw [Hzl.out, HR.out]; omega)).mono ?_
        rintro e w6 (⟨D6, rfl, hA6, hV6, hl6⟩ | ⟨_, h, _⟩)
        case inr => exact absurd Hlf.out h
        rw [Hzl.out, HR.out] at hA6 hV6
        have HA6 := Lib.hid hA6
        have HV6 := Lib.hid hV6
        clear hA6 hV6 hl6 HA5 HA4 hmk
        have hsn : s ≤ 140737488355328 := by omega
        have hlf1 : ¬ (lf : Int) < (R : Int) := by have := Hlff.out; omega
        go_wp2_with (go_at_call 16; refine (room_any s _ hsn).mono ?_; rintro e w' ⟨rfl, rfl⟩; rw [HR.out])
        refine (list_any HA6.out HV6.out.holds.all HV6.out.many).mono ?_
        rintro e w7 ⟨lv7, vs7, M7, rfl, hO7, hL7⟩
        have HA7 := Lib.hid (HA6.out.join hO7)
        obtain ⟨a7, c7, rfl⟩ := list_form hO7
        have h7l : vs7.length = vs.length + 1 := by rw [hL7.1, List.length_append, Hrl.out, Hvl.out]; rfl
        have Hleft7 := Lib.hid (left_any HA7.out)
        rw [HV6.out.len] at Hleft7
        obtain ⟨lf7, hlf7⟩ : ∃ lf7, (300 - 2) / 2 - (i + R) = lf7 := ⟨_, rfl⟩
        rw [hlf7] at Hleft7
        have hlq : (lf : Int) - (R : Int) = (lf7 : Int) := by have := Hlff.out; omega
        clear hO7 hL7 HA6 hlf7
        obtain ⟨q7, hq7⟩ : ∃ q7, vs7.length = q7 := ⟨_, rfl⟩
        have hq1 : (vs.length : Int) + 1 = (q7 : Int) := by omega
        rw [hq7]
        have hvb : vs.length ≤ 7 := by rw [Hvl.out]; omega
        have hq9 : q7 ≤ 8 := by omega
        have hlf9 : lf ≤ 149 := by have := Hlff.out; omega
        clear h7l hq7 hmb hsb Hbz
        go_wp2_with (first
          | (go_at_call 14; refine Hleft7.out.mono ?_; rintro e w' ⟨rfl, n7, rfl⟩)
          | (go_at_call 16; refine (room_any s _ hsn).mono ?_; rintro e w' ⟨rfl, rfl⟩; rw [HR.out]))
        go_ret
        exact ⟨rfl, by have := (HA7.out.drewN (n := n7)).below; rw [HB.out] at this; exact this⟩
end Go.Proofs.Ytpebpchnkhbcfaa
