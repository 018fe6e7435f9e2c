/- The document's Order. -/
import Derived.Test.YtnjabanjgckeoaaJ14
namespace Go.Proofs.Ytnjabanjgckeoaa
open Go.RowKit
open Go.ChangeMaps (setBlock)
set_option linter.unusedVariables false
set_option linter.unusedSimpArgs false
set_option maxRecDepth 100000

def freeD (us : List GU) (S out : List Nm) (n : Nm) : Bool := !decide (n ∈ out) && S.all fun x => !standD us n x || decide (x ∈ out)
def stepD (us : List GU) (S out : List Nm) : List Nm := match S.find? (freeD us S out) with
  | none => out
  | some n => out ++ [n]
def ordDn (us : List GU) (S : List Nm) : Nat → List Nm
  | 0 => []
  | n + 1 => stepD us S (ordDn us S n)
theorem stepD_length (us : List GU) (S out : List Nm) : (stepD us S out).length ≤ out.length + 1 := by
  unfold stepD
  split <;> simp
theorem ordDn_length (us : List GU) (S : List Nm) : ∀ n, (ordDn us S n).length ≤ n
  | 0 => Nat.le_refl _
  | n + 1 => Nat.le_trans (stepD_length us S _) (Nat.succ_le_succ (ordDn_length us S n))
theorem stepD_none {us : List GU} {S out : List Nm} (h : ∀ q (hq : q < S.length), freeD us S out S[q] = false) : stepD us S out = out := by
  unfold stepD
  rw [List.find?_eq_none.2 fun u hu => by
    obtain ⟨q, hq, rfl⟩ := List.getElem_of_mem hu
    rw [h q hq]; exact Bool.false_ne_true]
theorem stepD_some {us : List GU} {S out : List Nm} {k : Nat} (hk : k < S.length) (h : freeD us S out S[k] = true) (hb : ∀ q (hq : q < S.length), q < k → freeD us S out S[q] = false) : stepD us S out = out ++ [S[k]] := by
  unfold stepD
  rw [show S.find? (freeD us S out) = some S[k] from by
    rw [List.find?_eq_some_iff_getElem]
    exact ⟨h, k, hk, rfl, fun j hj => by rw [hb j (by omega) hj]; rfl⟩]
theorem all_take {p : Nm → Bool} {S : List Nm} {j : Nat} (hj : j < S.length) : (S.take (j + 1)).all p = ((S.take j).all p && p S[j]) := by
  rw [List.take_succ_eq_append_getElem hj, List.all_append]
  simp
set_option maxHeartbeats 8000000 in
theorem dorder_any (w : World) {v : Value} {us : List GU} (h : DU w v us) : Calls Try.prog 10 #[v] w fun e w' => ∃ v', e = .returned v' ∧ Own w w' [rowSs v' (ordDn us (sortN (namesU us)) ((sortN (namesU us)).length + 1))] := by
  obtain ⟨i0, hi, hz0, hz1, hz2⟩ := infoS_ex
  have kn := dnames_any w h
  have hSl : (sortN (namesU us)).length ≤ 1000000 := by
    rw [sortN_length]; unfold namesU; rw [List.length_map]
    obtain ⟨_, _, _, _, hl, _⟩ := h; exact hl
  obtain ⟨S, hS⟩ : ∃ S, sortN (namesU us) = S := ⟨_, rfl⟩
  rw [hS] at kn hSl ⊢
  clear hS
  have H := Lib.hid (fun (W : World) (hb : Below w.heap.size w W) => h.later hb)
  obtain ⟨a0, c0, rfl⟩ := h.shape
  clear h
  have hSz : (S.length : Int) ≤ 1000000 := by omega
  go_enter Try.func10, Try.ntmps10
  go_upto_region 2 with (go_at_call 12; refine kn.mono ?_; rintro e w1 ⟨v1, rfl, hO1⟩; obtain ⟨a3, c3, rfl, _, _, _⟩ := hO1.sts; have H1 := Lib.hid hO1; clear hO1)
  clear kn
  go_wp2_with fail
  go_loopw [4, 5] (fun s4 s5 wr => ∃ n : Nat, n ≤ S.length + 1 ∧ s5 = .int .i64 n ∧ Own w wr [rowSs s4 (ordDn us S n), rowSs (.slice a3 S.length c3) S]) (fun _ s5 _ => S.length + 1 - (intOf s5).toNat)
  case atStart => exact ⟨0, by omega, rfl, H1.out.made 9 1 #[] 0 rfl (by unfold maxLen; omega)⟩
  case round =>
    obtain ⟨n, hn, rfl, hO⟩ := hrel
    obtain ⟨out, hout⟩ : ∃ out, ordDn us S n = out := ⟨_, rfl⟩
    have hol := ordDn_length us S n
    rw [hout] at hO hol
    obtain ⟨a4, c4, hv4, _, _, _⟩ := hO.sts
    subst hv4
    have Hst := Lib.hid (show stepD us S out = ordDn us S (n + 1) from by rw [← hout]; rfl)
    have Hol := Lib.hid hol
    have HO := Lib.hid hO
    by_cases hle : n ≤ S.length
    · clear hO hol hout
      have hzn : (n : Int) ≤ (S.length : Int) := by omega
      go_wp2_with fail
      go_loopw [4, 6] (fun s4 s6 wr => ∃ k : Nat, k ≤ S.length ∧ s6 = .int .i64 k ∧ s4 = .slice a4 out.length c4 ∧ Own w wr [rowSs (.slice a4 out.length c4) out, rowSs (.slice a3 S.length c3) S] ∧ Hid (∀ q (hq : q < S.length), q < k → freeD us S out S[q] = false)) (fun _ s6 _ => S.length - (intOf s6).toNat)
      case atStart => exact ⟨0, Nat.zero_le _, rfl, rfl, HO.out, fun q hq h => absurd h (by omega)⟩
      case round =>
        obtain ⟨k, hk, rfl, rfl, hOm, HA⟩ := hrel
        have HOm := Lib.hid hOm
        by_cases hlt : k < S.length
        · have hkz : (k : Int) < (S.length : Int) := by omega
          obtain ⟨_, _, e3, _, _, h4⟩ := hOm.tail.sts
          injection e3 with e3 _ e33
          subst e33
          obtain ⟨b, o, e4, _, hc⟩ := h4 (by omega)
          subst e3
          subst e4
          have ck := hc k hlt
          obtain ⟨nm, hnm⟩ : ∃ nm, S[k] = nm := ⟨_, rfl⟩
          have HNM := Lib.hid hnm
          rw [hnm] at ck
          have kh := Lib.hid (dhas_any wr hOm.sts nm)
          obtain ⟨b1, hb1⟩ : ∃ b1, decide (nm ∈ out) = b1 := ⟨_, rfl⟩
          rw [hb1] at kh
          have HB1 := Lib.hid hb1
          obtain ⟨nb, hnb⟩ : ∃ nb, toB nm = nb := ⟨_, rfl⟩
          rw [hnb] at ck kh
          have HNB := Lib.hid hnb
          clear hOm hc h4 hb1 hnm hnb
          go_wp2_with fail
          go_at_call 31
          refine kh.out.mono ?_
          rintro e w9 ⟨rfl, rfl⟩
          clear kh
          go_wp2_with fail
          go_loopw [7, 8] (fun s7 s8 wr => ∃ j : Nat, j ≤ S.length ∧ s8 = .int .i64 j ∧ s7 = .bool (!b1 && (S.take j).all fun x => !standD us nm x || decide (x ∈ out)) ∧ Own w wr [rowSs (.slice a4 out.length c4) out, rowSs (.slice (some ⟨b, o, none⟩) S.length c3) S]) (fun _ s8 _ => S.length - (intOf s8).toNat)
          case atStart => exact ⟨0, Nat.zero_le _, rfl, by simp, HOm.out⟩
          case round =>
            obtain ⟨j, hj, rfl, rfl, hOj⟩ := hrel
            have HOj := Lib.hid hOj
            obtain ⟨b2, hb2⟩ : ∃ b2, (!b1 && (S.take j).all fun x => !standD us nm x || decide (x ∈ out)) = b2 := ⟨_, rfl⟩
            rw [hb2]
            have HB2 := Lib.hid hb2
            clear hb2
            by_cases hjl : j < S.length
            · have hjz : (j : Int) < (S.length : Int) := by omega
              obtain ⟨_, _, e3, _, _, h4⟩ := hOj.tail.sts
              injection e3 with e3 _ e33
              subst e33
              obtain ⟨b', o', e4, _, hc⟩ := h4 (by omega)
              rw [← e3] at e4
              injection e4 with e4
              injection e4 with e5 e6 _
              subst e5
              subst e6
              have ck := hc k hlt
              have cj := hc j hjl
              rw [HNM.out, HNB.out] at ck
              obtain ⟨x, hx⟩ : ∃ x, S[j] = x := ⟨_, rfl⟩
              rw [hx] at cj
              obtain ⟨xb, hxb⟩ : ∃ xb, toB x = xb := ⟨_, rfl⟩
              have HA2 := Lib.hid (all_take (p := fun x => !standD us nm x || decide (x ∈ out)) hjl)
              rw [hx] at HA2
              have K1 := Lib.hid (fun (q : Nat) => dstands_any (wr.drewN q) (H.out _ hOj.drewN.below) nm x)
              have K2 := Lib.hid (fun (q : Nat) => dhas_any (wr.drewN q) (hOj.drewN (n := q)).sts x)
              rw [HNB.out, hxb] at K1
              rw [hxb] at K2
              rw [hxb] at cj
              obtain ⟨sd, hsd⟩ : ∃ sd, standD us nm x = sd := ⟨_, rfl⟩
              obtain ⟨ho, hho⟩ : ∃ ho, decide (x ∈ out) = ho := ⟨_, rfl⟩
              rw [hsd] at K1
              rw [hho] at K2
              have HV := Lib.hid (show (!b1 && (S.take (j + 1)).all fun x => !standD us nm x || decide (x ∈ out)) = (b2 && (!sd || ho)) from by
                rw [HA2.out, hsd, hho, ← HB2.out, Bool.and_assoc])
              have HQ := Lib.hid (fun (q : Nat) => hOj.drewN (n := q))
              clear hc h4 hsd hho hx hxb HA2 hOj HOj e3
              cases sd
              · go_wp2_with fail
                go_quiet ((go_at_call 32; exact Calls.quiet_of_same (K1.out _)))
                go_wp2_with fail
                go_roundw
                case rel => exact ⟨j + 1, by omega, by go_num, by rw [HV.out]; simp, HQ.out _⟩
                case measure => simp [intOf]; omega
              · cases ho
                · go_wp2_with fail
                  go_quiet (first | (go_at_call 32; exact Calls.quiet_of_same (K1.out _)) | (go_at_call 31; exact Calls.quiet_of_same (K2.out _)))
                  go_wp2_with fail
                  go_roundw
                  case rel => exact ⟨j + 1, by omega, by go_num, by rw [HV.out]; simp, HQ.out _⟩
                  case measure => simp [intOf]; omega
                · go_wp2_with fail
                  go_quiet (first | (go_at_call 32; exact Calls.quiet_of_same (K1.out _)) | (go_at_call 31; exact Calls.quiet_of_same (K2.out _)))
                  go_wp2_with fail
                  go_roundw
                  case rel => exact ⟨j + 1, by omega, by go_num, by rw [HV.out]; simp, HQ.out _⟩
                  case measure => simp [intOf]; omega
            · have hjz : (S.length : Int) ≤ (j : Int) := by omega
              have HF := Lib.hid (show freeD us S out nm = b2 from by
                rw [← HB2.out, List.take_of_length_le (by omega), ← HB1.out]; rfl)
              clear hOj
              cases b2
              · have HA2 := Lib.hid (show ∀ q (hq : q < S.length), q < k + 1 → freeD us S out S[q] = false from fun q hq hqk => by
                  rcases Nat.lt_or_ge q k with h | h
                  · exact HA.out q hq h
                  · obtain rfl : q = k := by omega
                    rw [HNM.out]; exact HF.out)
                go_wp2_with fail
                go_roundw
                case rel => exact ⟨k + 1, by omega, by go_num, rfl, HOj.out, HA2⟩
                case measure => simp [intOf]; omega
              · have hstp := stepD_some hlt (by rw [HNM.out]; exact HF.out) HA.out
                rw [HNM.out, Hst.out] at hstp
                have Hstp := Lib.hid hstp
                have ck2 : wr.cell? ⟨b, o + k, none⟩ = some (.string nb) := by
                  obtain ⟨_, _, e3, _, _, h4⟩ := HOj.out.tail.sts
                  injection e3 with e3 _ e33
                  subst e33
                  obtain ⟨b', o', e4, _, hc⟩ := h4 (by omega)
                  rw [← e3] at e4
                  injection e4 with e4
                  injection e4 with e5 e6 _
                  subst e5
                  subst e6
                  have h9 := hc k hlt
                  rw [HNM.out, HNB.out] at h9
                  exact h9
                have HO4 := Lib.hid (HOj.out.alloc (.cells #[.string nb] 9))
                have Hsrc := Lib.hid (src_one wr (.string nb) 9 rfl)
                have hol9 := Hol.out
                have Hb1 := Lib.hid (show out.length + 1 ≤ maxLen from by unfold maxLen; omega)
                have Hb2 := Lib.hid (show (out.length + 1) * 16 ≤ 140737488355328 from by omega)
                clear hstp ck hol9
                go_wp2_with (at_builtin; refine wpList_append_src rfl (.tmp 57) (.tmp 62) 23 rfl (.slice a4 out.length c4) out.length (strs out) (.slice (some ⟨wr.heap.size, 0, none⟩) 1 1) 1 [.string nb] rfl rfl HO4.out i0 (.string ⟨#[]⟩) 16 Try.underlying23 hi hz0 hz1 hz2 rfl (by decide) Hsrc.out (by simp) Hb1.out Hb2.out ?_)
                intro v5 w5 hO5
                obtain ⟨a6, c6, hv6, _, _⟩ := Own.sized (h := hO5)
                subst hv6
                have HO5 := Lib.hid (show Own w w5 [rowSs (.slice a6 (out.length + 1) c6) (ordDn us S (n + 1)), rowSs (.slice (some ⟨b, o, none⟩) S.length c3) S] from by
                  rw [Hstp.out]
                  show Own w w5 [⟨9, 1, _, (out ++ [nm]).length, strs (out ++ [nm])⟩, _]
                  rw [List.length_append, show strs (out ++ [nm]) = strs out ++ [.string nb] from by rw [← HNB.out]; simp [strs]]
                  exact hO5)
                clear hO5
                go_wp2_with fail
                go_roundw
                case rel => exact ⟨n + 1, by omega, by go_num, HO5.out⟩
                case measure => simp [intOf]; omega
        · have HR := Lib.hid (show Own w wr [rowSs (.slice a4 out.length c4) (ordDn us S (n + 1)), rowSs (.slice a3 S.length c3) S] from by
            rw [← Hst.out, stepD_none fun q hq => HA.out q hq (by omega)]; exact hOm)
          have hkz : (S.length : Int) ≤ (k : Int) := by omega
          clear hOm HOm
          go_wp2_with fail
          go_roundw
          case rel => exact ⟨n + 1, by omega, by go_num, HR.out⟩
          case measure => simp [intOf]; omega
    · obtain rfl : n = S.length + 1 := by omega
      have HR := Lib.hid (show Own w wr [rowSs (.slice a4 out.length c4) (ordDn us S (S.length + 1))] from by rw [hout]; exact hO.swap.tail)
      clear hO hol hout HO
      go_wp2_with fail
      go_ret
      exact ⟨_, rfl, HR.out⟩
end Go.Proofs.Ytnjabanjgckeoaa
