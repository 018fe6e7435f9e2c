/- What a line says, taken by the parser: one more in a list. -/
import Derived.Test.YtmnohaefklglfaaDoorUn3
namespace Go.Proofs.YtmnohaefklglfaaDoor
open Go.RowKit
open Go.ChangeMaps (setBlock)
set_option linter.unusedVariables false
set_option linter.unusedSimpArgs false
set_option maxRecDepth 100000

theorem owned_form {w : World} {b e size n : Nat} {v : Value} {xs : List Value} (h : w.ownsRow b e size v n xs) : ∃ a c, v = .slice a n c := by
  rcases h.2 with ⟨rfl, rfl⟩ | ⟨g, cp, cur, rfl, _⟩
  · exact ⟨_, _, rfl⟩
  · exact ⟨_, _, rfl⟩
theorem containsS_mem (l : List (List UInt8)) (r : List UInt8) : Lib.containsS (l.map toB) (toB r) = decide (r ∈ l) := by
  rw [Bool.eq_iff_iff, Lib.containsS_iff, decide_eq_true_iff, List.mem_map]
  exact ⟨fun ⟨x, hx, e⟩ => toB_inj e ▸ hx, fun h => ⟨r, h, rfl⟩⟩
section
variable {W0 : Base} {w0 w w' : World} {K K' : Blocks} {L : List Rw} {ub mb pb b : Nat} {u : UD}
theorem contains_u {v : Value} {l : List (List UInt8)} (hO : Own W0 w (rowSs v l :: L)) (hl : l.length ≤ 1000000) (r : List UInt8) :
    Calls Tryd.prog 41 #[v, .string (toB r)] w fun e w' => e = .returned (.bool (decide (r ∈ l))) ∧ w = w' := by
  by_cases h0 : l.length = 0
  · have e0 : l = [] := List.length_eq_zero_iff.1 h0
    subst e0
    obtain ⟨a, c, hv⟩ := owned_form hO.head
    have hv' : v = .slice a 0 c := hv
    subst hv'
    exact (Tryd.slices_Contains_string_empty a c (toB r) w).mono fun e w' h => ⟨by rw [h.1]; rfl, h.2.symm⟩
  · obtain ⟨g, c, rfl, _⟩ := hO.form (by omega)
    refine (Tryd.slices_Contains_string g 0 l.length c (l.map toB) (toB r) w (by simp) (by omega) (fun j hj => ?_)).mono fun e w' h => ⟨?_, h.2.symm⟩
    · have hj' : j < l.length := by simpa using hj
      rw [Nat.zero_add, hO.str j hj']
      simp [List.getD_eq_getElem?_getD, hj']
    · rw [h.1, List.take_of_length_le (by simp), containsS_mem]
theorem wordAt_file {x : List UInt8} {k : Nat} (h : wordAt x = some k) : ((toB x).toList == [102, 105, 108, 101]) = decide (k = 0) := by
  rw [toList_toB]
  have h2 := (findW_lt h).2
  have h3 := (findW_lt h).1
  by_cases hk : k = 0
  · subst hk
    have e : x = [102, 105, 108, 101] := by
      have h4 : some [102, 105, 108, 101] = some x := h2
      exact (Option.some.inj h4).symm
    rw [e]; rfl
  · rw [decide_eq_false hk, beq_eq_false_iff_ne]
    intro e
    subst e
    have h4 : wordAt [102, 105, 108, 101] = some 0 := by rfl
    rw [h4] at h
    injection h with h
    exact hk h.symm
theorem right_u (hm : Mx w0) (h : PU w0 K ub mb pb u w) (k : Nat) (r : List UInt8) (hr : r.length ≤ 1000000) : Calls Tryd.prog (if decide (k = 0) then 40 else 39) #[.string (toB r)] w fun e w' => e = .returned (.bool (rightU k r)) ∧ PU w0 K ub mb pb u w' := by
  unfold rightU
  have hs : (toB r).size ≤ maxLen := by rw [toB_size]; unfold maxLen; omega
  by_cases hk : k = 0
  · rw [decide_eq_true hk, if_pos hk, if_pos rfl]
    exact (right_any (toB r) w hs (hm.later h.below)).mono fun e w' hd => ⟨hd.1, h.later hd.2⟩
  · rw [decide_eq_false hk, if_neg hk, if_neg (by decide)]
    exact (name_any (toB r) w hs).mono fun e w' hd => ⟨hd.1, h.later hd.2⟩
theorem info_str : (Tryd.prog.info? 9).map (fun i => (i.zero, i.size, i.bytes)) = some (some (.string ⟨#[]⟩), 1, 16) := by kernel_rfl
set_option maxHeartbeats 4000000 in
theorem link_no (h : PU w0 K ub mb pb u w) (x r : List UInt8) (hx : wordAt x = none) :
    Calls Tryd.prog 29 #[.pointer (some ⟨pb, 0, none⟩), .string (toB x), .string (toB r)] w fun e w' => e = .returned (.int .i64 4) ∧ PU w0 K ub mb pb u w' := by
  have hf := h.find x
  rw [hx] at hf
  have hf' : (Instr.lookup 45 (.map (some mb)) (.string (toB x)) true).run Tryd.prog w = .ok (.tuple #[.pointer none, .bool false]) w := hf
  obtain ⟨p0, p1, p2, pf⟩ := h.parser
  have H := Lib.hid h
  clear h hf hx p0 p2 pf
  generalize toB x = xs at *
  generalize toB r = rs at *
  obtain ⟨bb, hbb⟩ : ∃ bb, (xs.toList == [102, 105, 108, 101]) = bb := ⟨_, rfl⟩
  cases bb
  · go_enter Tryd.func29, Tryd.ntmps29
    go_wp2_with fail
    go_ret
    exact ⟨rfl, H.out⟩
  · go_enter Tryd.func29, Tryd.ntmps29
    go_wp2_with fail
    go_ret
    exact ⟨rfl, H.out⟩
set_option maxHeartbeats 8000000 in
theorem link_yes (hm : Mx w0) (h : PU w0 K ub mb pb u w) (x r : List UInt8) (hr : r.length ≤ 1000000) (k : Nat) (hx : wordAt x = some k) (h8 : (listU u k).length ≤ 8) :
    Calls Tryd.prog 29 #[.pointer (some ⟨pb, 0, none⟩), .string (toB x), .string (toB r)] w fun e w' => e = .returned (.int .i64 (linkU u k r).2) ∧ PU w0 K ub mb pb (linkU u k r).1 w' := by
  have hf := h.find x
  rw [hx] at hf
  have hf' : (Instr.lookup 45 (.map (some mb)) (.string (toB x)) true).run Tryd.prog w = .ok (.tuple #[.pointer (some ⟨ub, 1 + k, none⟩), .bool true]) w := hf
  obtain ⟨p0, p1, p2, pf⟩ := h.parser
  have hrt := right_u hm h k r hr
  have hk6 : k < 6 := (findW_lt hx).1
  have hw := wordAt_file hx
  have H := Lib.hid h
  have HE := Lib.hid (rfl : linkU u k r = linkU u k r)
  clear h hf p0 p2 pf hx
  generalize toB x = xs at *
  obtain ⟨bb, hbb⟩ : ∃ bb, decide (k = 0) = bb := ⟨_, rfl⟩
  rw [hbb] at hw hrt
  have H8 := Lib.hid h8
  have HK := Lib.hid hk6
  clear hbb h8 hk6
  obtain ⟨d, hd⟩ : ∃ d, linkU u k r = d := ⟨_, rfl⟩
  rw [hd]
  unfold linkU at hd
  cases hrb : rightU k r with
  | false =>
    rw [hrb, if_pos rfl] at hd
    rw [hrb] at hrt
    subst hd
    cases bb
    all_goals
      simp only [if_true, Bool.false_eq_true, if_false] at hrt
      go_enter Tryd.func29, Tryd.ntmps29
      go_wp2_with fail
      refine hrt.mono ?_
      rintro e w1 ⟨rfl, h1⟩
      have H1 := Lib.hid h1
      clear hrt h1
      go_wp2_with fail
      go_ret
      exact ⟨rfl, H1.out⟩
  | true =>
    rw [hrb, if_neg (by decide)] at hd
    rw [hrb] at hrt
    cases bb
    all_goals
      simp only [if_true, Bool.false_eq_true, if_false] at hrt
      go_enter Tryd.func29, Tryd.ntmps29
      go_wp2_with fail
      refine hrt.mono ?_
      rintro e w1 ⟨rfl, h1⟩
      obtain ⟨S, v, L, hc, hO, hset⟩ := h1.list k HK.out
      have hct := contains_u hO (by have := H8.out; omega) r
      obtain ⟨a, c, hv⟩ := owned_form hO.head
      have hv' : v = .slice a (listU u k).length c := hv
      subst hv'
      have H1 := Lib.hid h1
      have HO := Lib.hid hO
      have HS := Lib.hid hset
      clear hrt h1 hO hset hv
      by_cases hin : r ∈ listU u k
      · rw [if_pos hin] at hd
        subst hd
        rw [decide_eq_true hin] at hct
        go_wp2_with fail
        refine hct.mono ?_
        rintro e w2 ⟨rfl, rfl⟩
        clear hct
        go_wp2_with fail
        go_ret
        exact ⟨rfl, H1.out⟩
      · rw [if_neg hin] at hd
        rw [decide_eq_false hin] at hct
        have HN := Lib.hid hin
        clear hin
        go_wp2_with fail
        refine hct.mono ?_
        rintro e w2 ⟨rfl, rfl⟩
        clear hct
        by_cases hl : (listU u k).length = 8
        · rw [if_pos hl] at hd
          subst hd
          rw [hl] at hc
          go_wp2_with fail
          go_ret
          exact ⟨rfl, H1.out⟩
        · rw [if_neg hl] at hd
          subst hd
          have g1 : ¬ ((listU u k).length : Int) = 8 := by omega
          obtain ⟨i0, hi, hz0, hz1, hz2⟩ := info_parts info_str
          have HL := Lib.hid hl
          clear hl
          obtain ⟨n, hn⟩ : ∃ n, n = (listU u k).length := ⟨_, rfl⟩
          rw [← hn] at hc g1
          have HOn : Own ⟨w0, S⟩ w1 (⟨9, 1, .slice a n c, n, strs (listU u k)⟩ :: L) := by rw [hn]; exact HO.out
          have Hn := Lib.hid hn
          have HO2 := Lib.hid HOn
          clear hn HOn
          obtain ⟨rs, hrs⟩ : ∃ rs, toB r = rs := ⟨_, rfl⟩
          have HR := Lib.hid hrs
          rw [hrs]
          clear hrs
          go_wp2_with (at_builtin; refine wpList_append_src rfl _ _ 23 rfl _ n _ _ 1 [.string rs] rfl rfl (HO2.out.alloc _) i0 (.string ⟨#[]⟩) 16 Tryd.underlying23 hi hz0 hz1 hz2 rfl (by decide) (src_one _ _ _ rfl) rfl (by have := Hn.out; have := H8.out; unfold maxLen; omega) (by have := Hn.out; have := H8.out; omega) ?_; intro v' w4 hO4; obtain ⟨g, cp, hv4, _⟩ := hO4.form (by omega); subst hv4; obtain ⟨q1, q2, q3⟩ := HS.out w4 _ _ (rowS_push (done := listU u k) (by rw [← Hn.out]; exact hO4) HR.out.symm); have HP := Lib.hid q3; clear q3 hO4)
          go_ret
          exact ⟨rfl, HP.out⟩
end
end Go.Proofs.YtmnohaefklglfaaDoor
