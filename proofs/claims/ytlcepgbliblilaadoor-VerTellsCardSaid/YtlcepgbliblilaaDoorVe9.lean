/- The document's own answer for versions: a number, the pieces. -/
import Derived.Test.YtlcepgbliblilaaDoorVe8
namespace Go.Proofs.YtlcepgbliblilaaDoor
open Go.RowKit
set_option linter.unusedVariables false
set_option linter.unusedSimpArgs false
set_option maxRecDepth 100000

def refN (l : List UInt8) : Int := if numL l then (valN l : Int) else -1
theorem refN_yes {l : List UInt8} (h : numL l = true) : refN l = valN l := by unfold refN; rw [if_pos h]
theorem refN_no {l : List UInt8} (h : numL l = false) : refN l = -1 := by unfold refN; rw [if_neg (by rw [h]; decide)]
theorem valN_snoc (l : List UInt8) (c : UInt8) : valN (l ++ [c]) = 10 * valN l + (c.toNat - 48) := by
  unfold valN; rw [List.foldl_append]; rfl
theorem fold_lt (l : List UInt8) (h : l.all digB = true) : ∀ acc, l.foldl (fun n (c : UInt8) => 10 * n + (c.toNat - 48)) acc < (acc + 1) * 10 ^ l.length := by
  induction l with
  | nil => intro acc; simp
  | cons c l ih =>
    intro acc
    simp only [List.all_cons, Bool.and_eq_true] at h
    have hc := of_decide_eq_true h.1
    have h1 := ih h.2 (10 * acc + (c.toNat - 48))
    rw [List.foldl_cons, List.length_cons, Nat.pow_succ]
    refine Nat.lt_of_lt_of_le h1 ?_
    rw [Nat.mul_comm (10 ^ l.length) 10, ← Nat.mul_assoc]
    exact Nat.mul_le_mul_right _ (by omega)
theorem valN_lt {l : List UInt8} (h : l.all digB = true) (hl : l.length ≤ 4) : valN l < 10000 := by
  have h1 := fold_lt l h 0
  have h2 : 10 ^ l.length ≤ 10 ^ 4 := Nat.pow_le_pow_right (by decide) hl
  unfold valN
  omega
theorem take_snocB (s : ByteArray) (k : Nat) (h : k < s.size) : s.data.toList.take (k + 1) = s.data.toList.take k ++ [s[k]] := by
  rw [List.take_succ_eq_append_getElem (by simpa using h)]; rfl
def NumRel (s : ByteArray) (n i : Value) : Prop := ∃ k : Nat, k ≤ s.size ∧ i = .int .i64 k ∧ n = .int .i64 (valN (s.data.toList.take k) : Int) ∧ (s.data.toList.take k).all digB = true
theorem num_front (s : ByteArray) : s.size < 1 ∧ numL s.data.toList = false ∨ 4 < s.size ∧ numL s.data.toList = false ∨ 1 ≤ s.size ∧ s.size ≤ 4 ∧ (1 < s.size ∧ ∃ h : 0 < s.size, s[0].toNat = 48 ∧ numL s.data.toList = false) ∨ 1 ≤ s.size ∧ s.size ≤ 4 ∧ numL s.data.toList = s.data.toList.all digB ∧ (s.size = 1 ∨ 1 < s.size ∧ ∃ h : 0 < s.size, s[0].toNat ≠ 48) := by
  have e := Lib.size_eq s
  have hh := head_at s
  by_cases h1 : s.size < 1
  · refine .inl ⟨h1, ?_⟩
    unfold numL; rw [decide_eq_false (by omega)]; rfl
  · by_cases h2 : 4 < s.size
    · refine .inr (.inl ⟨h2, ?_⟩)
      unfold numL; rw [decide_eq_false (by omega)]; rfl
    · by_cases h4 : s.size = 1
      · refine .inr (.inr (.inr ⟨by omega, by omega, ?_, .inl h4⟩))
        unfold numL
        rw [decide_eq_true ⟨by omega, by omega, by omega⟩, Bool.true_and]
      · have h0 : 0 < s.size := by omega
        have hz := hh h0
        by_cases h5 : s[0] = 48
        · refine .inr (.inr (.inl ⟨by omega, by omega, by omega, h0, by rw [h5]; rfl, ?_⟩))
          unfold numL
          rw [decide_eq_false fun k => k.2.2 ⟨by omega, by rw [hz, h5]⟩]; rfl
        · refine .inr (.inr (.inr ⟨by omega, by omega, ?_, .inr ⟨by omega, h0, fun k => h5 (UInt8.toNat_inj.1 k)⟩⟩))
          unfold numL
          rw [decide_eq_true ⟨by omega, by omega, fun k => h5 (Option.some.inj (hz.symm.trans k.2))⟩, Bool.true_and]
set_option maxHeartbeats 4000000 in
theorem refnum_any (s : ByteArray) (w : World) (hs : s.size ≤ maxLen) : Calls Tryd.prog 13 #[.string s] w fun e w' => e = .returned (.int .i64 (refN s.data.toList)) ∧ w = w' := by
  unfold maxLen at hs
  rcases num_front s with ⟨h1, h2⟩ | ⟨h1, h2⟩ | ⟨h1, h2, h3, h0, h4, h5⟩ | ⟨h1, h2, h3, h4⟩
  · rw [refN_no h2]
    go_enter Tryd.func13, Tryd.ntmps13
    go_wp2_with fail
    go_ret
    exact ⟨rfl, rfl⟩
  · rw [refN_no h2]
    go_enter Tryd.func13, Tryd.ntmps13
    go_wp2_with fail
    go_ret
    exact ⟨rfl, rfl⟩
  · rw [refN_no h5]
    have hx : ((s[0].toNat : Int) == 48) = true := beq_iff_eq.2 (by omega)
    clear h5 h4
    go_enter Tryd.func13, Tryd.ntmps13
    go_wp2_with fail
    go_ret
    exact ⟨rfl, rfl⟩
  · have Hst := Lib.hid (show NumRel s (.int .i64 0) (.int .i64 0) from ⟨0, Nat.zero_le _, rfl, rfl, rfl⟩)
    have H3 := Lib.hid h3
    have e := Lib.size_eq s
    have HE := Lib.hid e
    clear h3 e
    have hd : decide (4 < (s.size : Int)) = false := decide_eq_false (by omega)
    rcases h4 with h4 | ⟨h4, h0, h5⟩
    · go_enter Tryd.func13, Tryd.ntmps13
      go_wp2_with fail
      go_loop [3, 4] (fun n i => NumRel s n i) (fun _ i => s.size - (intOf i).toNat)
      case atStart => exact Hst.out
      case round =>
        obtain ⟨k, hk, rfl, rfl, hall⟩ := hrel
        clear Hst
        by_cases hlt : k < s.size
        · have hv := valN_lt hall (by rw [List.length_take]; omega)
          have HS := Lib.hid (take_snocB s k hlt)
          have HA := Lib.hid hall
          by_cases hg : digB s[k] = true
          · have h6 : (48 : Int) ≤ s[k].toNat ∧ (s[k].toNat : Int) ≤ 57 := by have := of_decide_eq_true hg; omega
            obtain ⟨h6, h7⟩ := h6
            have HX := Lib.hid (show ∀ n i, n = .int .i64 ((10 * valN (s.data.toList.take k) + (s[k].toNat - 48) : Nat) : Int) → i = .int .i64 ((k + 1 : Nat) : Int) → NumRel s n i from fun n i hn hi => ⟨k + 1, hlt, hi, by rw [hn, HS.out, valN_snoc], by rw [HS.out, List.all_append, HA.out, List.all_cons, hg]; rfl⟩)
            clear hg hall HS HA
            generalize valN (s.data.toList.take k) = n at *
            go_wp2_with fail
            go_round
            case rel => exact HX.out _ _ (by go_num) (by go_num)
            case measure => simp [intOf]; omega
          · have hg : digB s[k] = false := by simpa using hg
            have HN := Lib.hid (refN_no (by rw [H3.out]; exact bytes_no digB s k hlt hg))
            have h6 : (s[k].toNat : Int) < 48 ∨ (57 : Int) < s[k].toNat := by
              have := of_decide_eq_false hg; omega
            clear hg hall HS HA
            generalize valN (s.data.toList.take k) = n at *
            rcases h6 with h6 | h6
            · go_wp2_with fail
              go_ret
              exact ⟨by rw [HN.out]; rfl, rfl⟩
            · have h7 : ¬ (s[k].toNat : Int) < 48 := by omega
              go_wp2_with fail
              go_ret
              exact ⟨by rw [HN.out]; rfl, rfl⟩
        · have HT := Lib.hid (show s.data.toList.take k = s.data.toList from List.take_of_length_le (by rw [← HE.out]; omega))
          have HR := Lib.hid (show refN s.data.toList = valN s.data.toList from refN_yes (by rw [H3.out, ← HT.out]; exact hall))
          rw [HT.out]
          clear hall
          generalize valN s.data.toList = n at *
          go_wp2_with fail
          go_ret
          exact ⟨by rw [HR.out]; rfl, rfl⟩
    · have hx : ((s[0].toNat : Int) == 48) = false := beq_eq_false_iff_ne.2 (by omega)
      clear h5
      go_enter Tryd.func13, Tryd.ntmps13
      go_wp2_with fail
      clear hx
      go_loop [3, 4] (fun n i => NumRel s n i) (fun _ i => s.size - (intOf i).toNat)
      case atStart => exact Hst.out
      case round =>
        obtain ⟨k, hk, rfl, rfl, hall⟩ := hrel
        clear Hst
        by_cases hlt : k < s.size
        · have hv := valN_lt hall (by rw [List.length_take]; omega)
          have HS := Lib.hid (take_snocB s k hlt)
          have HA := Lib.hid hall
          by_cases hg : digB s[k] = true
          · have h6 : (48 : Int) ≤ s[k].toNat ∧ (s[k].toNat : Int) ≤ 57 := by have := of_decide_eq_true hg; omega
            obtain ⟨h6, h7⟩ := h6
            have HX := Lib.hid (show ∀ n i, n = .int .i64 ((10 * valN (s.data.toList.take k) + (s[k].toNat - 48) : Nat) : Int) → i = .int .i64 ((k + 1 : Nat) : Int) → NumRel s n i from fun n i hn hi => ⟨k + 1, hlt, hi, by rw [hn, HS.out, valN_snoc], by rw [HS.out, List.all_append, HA.out, List.all_cons, hg]; rfl⟩)
            clear hg hall HS HA
            generalize valN (s.data.toList.take k) = n at *
            go_wp2_with fail
            go_round
            case rel => exact HX.out _ _ (by go_num) (by go_num)
            case measure => simp [intOf]; omega
          · have hg : digB s[k] = false := by simpa using hg
            have HN := Lib.hid (refN_no (by rw [H3.out]; exact bytes_no digB s k hlt hg))
            have h6 : (s[k].toNat : Int) < 48 ∨ (57 : Int) < s[k].toNat := by
              have := of_decide_eq_false hg; omega
            clear hg hall HS HA
            generalize valN (s.data.toList.take k) = n at *
            rcases h6 with h6 | h6
            · go_wp2_with fail
              go_ret
              exact ⟨by rw [HN.out]; rfl, rfl⟩
            · have h7 : ¬ (s[k].toNat : Int) < 48 := by omega
              go_wp2_with fail
              go_ret
              exact ⟨by rw [HN.out]; rfl, rfl⟩
        · have HT := Lib.hid (show s.data.toList.take k = s.data.toList from List.take_of_length_le (by rw [← HE.out]; omega))
          have HR := Lib.hid (show refN s.data.toList = valN s.data.toList from refN_yes (by rw [H3.out, ← HT.out]; exact hall))
          rw [HT.out]
          clear hall
          generalize valN s.data.toList = n at *
          go_wp2_with fail
          go_ret
          exact ⟨by rw [HR.out]; rfl, rfl⟩
end Go.Proofs.YtlcepgbliblilaaDoor
