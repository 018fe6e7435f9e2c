/- The document's Names. -/
import Derived.Test.YtnjabanjgckeoaaJ12
import Derived.Laws.Cover1
namespace Go.Proofs.Ytnjabanjgckeoaa
open Go.RowKit
open Go.ChangeMaps (setBlock)
set_option linter.unusedVariables false
set_option linter.unusedSimpArgs false
set_option maxRecDepth 100000

/-- A list with one more at a place. -/
def midN (S : List Nm) (x : Nm) (j : Nat) : List Nm := S.take j ++ x :: S.drop j
theorem midN_length (S : List Nm) (x : Nm) (j : Nat) : (midN S x j).length = S.length + 1 := by
  unfold midN; simp; omega
theorem midN_last (S : List Nm) (x : Nm) : midN S x S.length = S ++ [x] := by
  unfold midN; simp
theorem midN_at (S : List Nm) (x : Nm) {j : Nat} (h : j ≤ S.length) : (midN S x j)[j]? = some x := by
  unfold midN
  rw [List.getElem?_append_right (by rw [List.length_take]; omega)]
  simp [List.length_take, Nat.min_eq_left h]
theorem midN_below (S : List Nm) (x : Nm) {j : Nat} (h0 : 0 < j) (h : j ≤ S.length) : (midN S x j)[j - 1]? = S[j - 1]? := by
  unfold midN
  rw [List.getElem?_append_left (by simp; omega), List.getElem?_take, if_pos (by omega)]
theorem midN_swap (S : List Nm) (x : Nm) {j : Nat} (h0 : 0 < j) (h : j ≤ S.length) : ((midN S x j).set j (S[j - 1]'(by omega))).set (j - 1) x = midN S x (j - 1) := by
  apply List.ext_getElem?
  intro i
  have hl := midN_length S x j
  rw [List.getElem?_set, List.getElem?_set]
  simp only [List.length_set, hl]
  unfold midN
  by_cases h1 : j - 1 = i
  · subst h1
    rw [if_pos rfl, if_pos (by omega), List.getElem?_append_right (by rw [List.length_take]; omega)]
    simp [List.length_take, Nat.min_eq_left (show j - 1 ≤ S.length by omega)]
  · rw [if_neg h1]
    by_cases h2 : j = i
    · subst h2
      rw [if_pos rfl, if_pos (by omega), List.getElem?_append_right (by simp; omega)]
      rw [List.length_take, Nat.min_eq_left (show j - 1 ≤ S.length by omega), show j - (j - 1) = 1 by omega]
      simp only [List.getElem?_cons_succ, List.getElem?_drop]
      rw [show j - 1 + 0 = j - 1 by omega, List.getElem?_eq_getElem (by omega)]
    · rw [if_neg h2]
      rcases Nat.lt_or_ge i (j - 1) with h3 | h3
      · rw [List.getElem?_append_left (by simp; omega), List.getElem?_append_left (by simp; omega), List.getElem?_take, List.getElem?_take, if_pos (by omega), if_pos h3]
      · have h4 : j < i := by omega
        rw [List.getElem?_append_right (by simp; omega), List.getElem?_append_right (by simp; omega), List.length_take, List.length_take, Nat.min_eq_left h, Nat.min_eq_left (show j - 1 ≤ S.length by omega)]
        obtain ⟨d, rfl⟩ : ∃ d, i = j + 1 + d := ⟨i - (j + 1), by omega⟩
        rw [show j + 1 + d - j = d + 1 by omega, show j + 1 + d - (j - 1) = d + 2 by omega]
        simp only [List.getElem?_cons_succ, List.getElem?_drop]
        congr 1; omega
theorem midN_perm (S : List Nm) (x : Nm) (j : Nat) : (midN S x j).Perm (x :: S) := by
  unfold midN
  refine List.perm_middle.trans ?_
  rw [List.take_append_drop]
theorem midN_order {S : List Nm} {x : Nm} {j : Nat} (hS : InOrder S) (hj : j ≤ S.length) (ha : ∀ q (hq : q < S.length), j ≤ q → x < S[q]) (hb : ∀ (h0 : 0 < j), ¬ x < S[j - 1]'(by omega)) : InOrder (midN S x j) := by
  unfold midN InOrder
  have hS' : InOrder (S.take j ++ S.drop j) := by rw [List.take_append_drop]; exact hS
  obtain ⟨h1, h2, h3⟩ := List.pairwise_append.1 hS'
  have hxd : ∀ y ∈ S.drop j, leN x y = true := fun y hy => by
    obtain ⟨q, hq, rfl⟩ := List.getElem_of_mem hy
    rw [List.getElem_drop]
    unfold leN
    rw [List.length_drop] at hq
    exact decide_eq_true (List.le_of_lt (ha (j + q) (by omega) (by omega)))
  have htx : ∀ y ∈ S.take j, leN y x = true := fun y hy => by
    obtain ⟨q, hq, rfl⟩ := List.getElem_of_mem hy
    rw [List.length_take] at hq
    rw [List.getElem_take]
    have h9 := order_at hS (i := q) (j := j - 1) (by omega) (by omega) (by omega)
    have h8 : S[j - 1]'(by omega) ≤ x := List.not_lt.1 (hb (by omega))
    unfold leN
    exact decide_eq_true (List.le_trans h9 h8)
  refine List.pairwise_append.2 ⟨h1, List.pairwise_cons.2 ⟨hxd, h2⟩, fun a ha' b hb' => ?_⟩
  rcases List.mem_cons.1 hb' with rfl | hb'
  · exact htx a ha'
  · exact h3 a ha' b hb'
theorem midN_sort {us : List Nm} {k j : Nat} (hk : k < us.length) (hj : j ≤ (sortN (us.take k)).length) (ha : ∀ q (hq : q < (sortN (us.take k)).length), j ≤ q → us[k] < (sortN (us.take k))[q]) (hb : ∀ (h0 : 0 < j), ¬ us[k] < (sortN (us.take k))[j - 1]'(by omega)) : midN (sortN (us.take k)) us[k] j = sortN (us.take (k + 1)) := by
  refine order_uniq ?_ (midN_order (sortN_order _) hj ha hb) (sortN_order _)
  refine (midN_perm _ _ _).trans ?_
  rw [List.take_succ_eq_append_getElem hk]
  exact (((sortN_perm _).cons _).trans (List.perm_append_comm (l₁ := [us[k]]))).trans (sortN_perm _).symm
theorem midN_sort2 {us S : List Nm} {x : Nm} {k j : Nat} (hk : k < us.length) (hS : sortN (us.take k) = S) (hx : us[k] = x) (hj : j ≤ S.length) (ha : ∀ q (hq : q < S.length), j ≤ q → x < S[q]) (hb : ∀ (h0 : 0 < j), ¬ x < S[j - 1]'(by omega)) : midN S x j = sortN (us.take (k + 1)) := by
  subst hS hx
  exact midN_sort hk hj ha hb
set_option maxHeartbeats 4000000 in
theorem dnames_any (w : World) {v : Value} {us : List GU} (h : DU w v us) : Calls Try.prog 12 #[v] w fun e w' => ∃ v', e = .returned v' ∧ Own w w' [rowSs v' (sortN (namesU us))] := by
  obtain ⟨i0, hi, hz0, hz1, hz2⟩ := infoS_ex
  obtain ⟨a, c, rfl⟩ := h.shape
  obtain ⟨no, hno⟩ : ∃ no, us.length = no := ⟨_, rfl⟩
  have hnl : (namesU us).length = no := by unfold namesU; rw [List.length_map, hno]
  have hn : (no : Int) ≤ 1000000 := by obtain ⟨_, _, _, _, hl, _⟩ := h; omega
  have H := Lib.hid h
  have HN := Lib.hid hno
  have HL := Lib.hid hnl
  rw [hno]
  clear h hno hnl
  go_enter Try.func12, Try.ntmps12
  go_wp2_with fail
  go_loopw [3, 4] (fun s3 s4 wr => ∃ k : Nat, k ≤ no ∧ s4 = .int .i64 k ∧ Own w wr [rowSs s3 (sortN ((namesU us).take k))]) (fun _ s4 _ => no - (intOf s4).toNat)
  case atStart => exact ⟨0, Nat.zero_le _, rfl, (Own.start w).made 9 1 #[] 0 rfl (by unfold maxLen; omega)⟩
  case round =>
    obtain ⟨k, hk, rfl, hO⟩ := hrel
    obtain ⟨a3, n3, c3, hv3⟩ := hO.sts.shape
    have hv3' : u3 = .slice a3 n3 c3 := hv3
    subst hv3'
    by_cases hlt : k < no
    · have hlu : k < us.length := by rw [HN.out]; exact hlt
      have hln : k < (namesU us).length := by rw [HL.out]; exact hlt
      obtain ⟨b, o, x, rfl, hx, hc⟩ := (H.out.later hO.below).at k hlu
      have ck : wr.cell? ⟨b, o + k * 8, none⟩ = some (.string (toB us[k].name)) := by
        have := hc 0 _ rfl
        rw [Nat.add_zero, hx.name] at this
        exact this
      obtain ⟨S, hS⟩ : ∃ S, sortN ((namesU us).take k) = S := ⟨_, rfl⟩
      have hSl : S.length = k := by rw [← hS, sortN_length, List.length_take]; omega
      have hxn : (namesU us)[k] = us[k].name := by simp [namesU]
      rw [hS] at hO
      obtain ⟨nm, hnm⟩ : ∃ nm, us[k].name = nm := ⟨_, rfl⟩
      rw [hnm] at ck hxn
      have Hsort := Lib.hid (fun (j : Nat) => midN_sort2 (us := namesU us) (k := k) (j := j) hln hS hxn)
      have hn3 : n3 = k := by
        obtain ⟨a9, c9, e, _⟩ := Own.sized (h := (show Own w wr (⟨9, 1, .slice a3 n3 c3, S.length, strs S⟩ :: []) from hO))
        injection e with _ e2 _
        rw [e2, hSl]
      subst hn3
      have HS := Lib.hid hSl
      have HO4 := Lib.hid (show Own w (wr.alloc (.cells #[.string (toB nm)] 9)) (⟨9, 1, .slice a3 n3 c3, n3, strs S⟩ :: []) from by
        have := hO.alloc (.cells #[.string (toB nm)] 9)
        rw [← HS.out]; rw [← HS.out] at this; exact this)
      have Hsrc := Lib.hid (src_one wr (.string (toB nm)) 9 rfl)
      have Hb1 := Lib.hid (show n3 + 1 ≤ maxLen from by unfold maxLen; omega)
      have Hb2 := Lib.hid (show (n3 + 1) * 16 ≤ 140737488355328 from by omega)
      have hkz : (n3 : Int) < (no : Int) := by omega
      clear hO hc hx hS hSl hnm hxn hlu hln hv3
      go_wp2_with (at_builtin; refine wpList_append_src rfl (.tmp 14) (.tmp 20) 23 rfl (.slice a3 n3 c3) n3 (strs S) (.slice (some ⟨wr.heap.size, 0, none⟩) 1 1) 1 [.string (toB nm)] rfl rfl HO4.out i0 (.string ⟨#[]⟩) 16 Try.underlying23 hi hz0 hz1 hz2 rfl (by decide) Hsrc.out (by simp) Hb1.out Hb2.out ?_)
      intro v5 w5 hO5
      obtain ⟨g5, c5, hv5, _, _, _, _⟩ := Own.form (h := hO5) (by omega)
      subst hv5
      have HO5 := Lib.hid (show Own w w5 (⟨9, 1, .slice (some ⟨g5, 0, none⟩) (n3 + 1) c5, n3 + 1, strs (midN S nm n3)⟩ :: []) from by
        have e : midN S nm n3 = S ++ [nm] := by have := midN_last S nm; rw [HS.out] at this; exact this
        rw [e, show strs (S ++ [nm]) = strs S ++ [.string (toB nm)] from by simp [strs]]
        exact hO5)
      have HE := Lib.hid (fun (W : World) (j : Nat) (hj : j ≤ n3) (hO : Own w W (⟨9, 1, .slice (some ⟨g5, 0, none⟩) (n3 + 1) c5, n3 + 1, strs (midN S nm j)⟩ :: [])) (ha : ∀ q (hq : q < S.length), j ≤ q → nm < S[q]) (hb : ∀ (h0 : 0 < j), ¬ nm < S[j - 1]'(by have := HS.out; omega)) => (show Own w W [rowSs (.slice (some ⟨g5, 0, none⟩) (n3 + 1) c5) (sortN ((namesU us).take (n3 + 1)))] from by
        rw [← Hsort.out j (by have := HS.out; omega) ha hb]
        show Own w W (⟨9, 1, _, (midN S nm j).length, strs (midN S nm j)⟩ :: [])
        rw [midN_length, HS.out]
        exact hO))
      clear hO5 Hsrc HO4 ck
      go_wp2_with fail
      go_loopw [5] (fun s5 wr => ∃ j : Nat, j ≤ n3 ∧ s5 = .int .i64 j ∧ Own w wr (⟨9, 1, .slice (some ⟨g5, 0, none⟩) (n3 + 1) c5, n3 + 1, strs (midN S nm j)⟩ :: []) ∧ Hid (∀ q (hq : q < S.length), j ≤ q → nm < S[q])) (fun s5 _ => (intOf s5).toNat)
      case atStart => exact ⟨n3, Nat.le_refl _, by go_num, HO5.out, fun q hq h => absurd hq (by have := HS.out; omega)⟩
      case round =>
        obtain ⟨j, hj, rfl, hO6, HA⟩ := hrel
        by_cases h0 : j = 0
        · subst h0
          have HR := Lib.hid (fun q => HE.out (wr.drewN q) 0 (by omega) hO6.drewN HA.out (fun h => absurd h (by omega)))
          clear hO6
          go_wp2_with fail
          go_quiet (fail)
          go_wp2_with fail
          go_roundw
          case rel => exact ⟨n3 + 1, by omega, by go_num, HR.out _⟩
          case measure => simp [intOf]; omega
        · obtain ⟨d, rfl⟩ : ∃ d, j = d + 1 := ⟨j - 1, by omega⟩
          have hd : d < S.length := by have := HS.out; omega
          have c1 : wr.cell? ⟨g5, d + 1, none⟩ = some (.string (toB nm)) := by
            rw [Own.cell (h := hO6) (d + 1) (by omega)]
            have h3 := midN_at S nm (j := d + 1) (by omega)
            unfold strs
            rw [List.getElem?_map, h3]; rfl
          have c2 : wr.cell? ⟨g5, d, none⟩ = some (.string (toB S[d])) := by
            rw [Own.cell (h := hO6) d (by omega)]
            have h3 := midN_below S nm (j := d + 1) (by omega) (by omega)
            rw [show d + 1 - 1 = d from by omega, List.getElem?_eq_getElem hd] at h3
            unfold strs
            rw [List.getElem?_map, h3]; rfl
          have hbl : Op.bytesLess (toB S[d]).toList (toB nm).toList = decide (S[d] < nm) := by
            rw [Lib.toList_data, Lib.toList_data]; exact bytesLess_eq _ _
          have hbe := beq_nm S[d] nm
          have hz0 : (0 : Int) < ((d + 1 : Nat) : Int) := by omega
          have hz1 : ((d + 1 : Nat) : Int) ≤ 1000000 := by omega
          have hz2 : IntKind.i64.wrap (d : Int) = (d : Int) := by simp (disch := omega) only [IntWalk.i64_in]
          have hz3 : (0 : Int) ≤ (d : Int) := by omega
          have hz4 : (d : Int) < (n3 : Int) := by omega
          have hz5 : (d : Int) < (n3 : Int) + 1 := by omega
          have hz6 : (d : Int) + 1 < (n3 : Int) + 1 := by omega
          have hz7 : (0 : Int) ≤ (d : Int) + 1 := by omega
          have hz8 : (d : Int) < ((n3 + 1 : Nat) : Int) := by omega
          have hz9 : (d : Int) + 1 < ((n3 + 1 : Nat) : Int) := by omega
          by_cases hlx : nm < S[d]
          · have HA2 := Lib.hid (show ∀ q (hq : q < S.length), d ≤ q → nm < S[q] from fun q hq hdq => by
              rcases Nat.lt_or_ge d q with h | h
              · exact HA.out q hq h
              · obtain rfl : q = d := by omega
                exact hlx)
            have HO7 := Lib.hid (fun q => show Own w (((wr.drewN q).setCell ⟨g5, d + 1, none⟩ (.string (toB S[d]))).setCell ⟨g5, d, none⟩ (.string (toB nm))) (⟨9, 1, .slice (some ⟨g5, 0, none⟩) (n3 + 1) c5, n3 + 1, strs (midN S nm d)⟩ :: []) from by
              have h1 := Own.set (h := Own.set (h := hO6.drewN (n := q)) (d + 1) (.string (toB S[d]))) d (.string (toB nm))
              rw [strs_set, strs_set] at h1
              have h2 := midN_swap S nm (j := d + 1) (by omega) (by omega)
              have h3 : ((midN S nm (d + 1)).set (d + 1) S[d]).set d nm = midN S nm d := h2
              rw [h3] at h1
              exact h1)
            have F1 := Lib.hid (fun q => Own.free (h := hO6.drewN (n := q)) (d + 1))
            have F2 := Lib.hid (fun q => Own.free (h := hO6.drewN (n := q)) d)
            have C1 := Lib.hid (fun (q : Nat) => (show (wr.drewN q).cell? ⟨g5, d + 1, none⟩ = some (.string (toB nm)) from c1))
            have C2 := Lib.hid (fun (q : Nat) => (show (wr.drewN q).cell? ⟨g5, d, none⟩ = some (.string (toB S[d])) from c2))
            rw [decide_eq_false (fun h => List.lt_asymm h hlx)] at hbl
            rw [decide_eq_false (fun h => by rw [h] at hlx; exact List.lt_irrefl _ hlx)] at hbe
            clear hO6 hlx
            generalize S[d] = sd at *
            generalize toB sd = sb at *
            generalize toB nm = nb at *
            go_wp2_with fail
            go_quiet (fail)
            have f1 := F1.out nq
            have f2 := F2.out nq
            have e1 := C1.out nq
            have e2 := C2.out nq
            have hO8 := Lib.hid (HO7.out nq)
            clear c1 c2 HO7 F1 F2 C1 C2
            generalize wr.drewN nq = W8 at *
            go_wp2_with fail
            go_roundw
            case rel => exact ⟨d, by omega, by go_num, hO8.out, HA2⟩
            case measure => simp [intOf]
          · have HR := Lib.hid (fun q => HE.out (wr.drewN q) (d + 1) (by omega) hO6.drewN HA.out (fun _ => hlx))
            by_cases hq : S[d] = nm
            · rw [decide_eq_true hq] at hbe
              have hbl' : Op.bytesLess (toB S[d]).toList (toB nm).toList = false := by
                rw [hbl]; exact decide_eq_false fun h => by rw [hq] at h; exact List.lt_irrefl _ h
              clear hbl hq
              clear hO6 hlx
              generalize S[d] = sd at *
              generalize toB sd = sb at *
              generalize toB nm = nb at *
              go_wp2_with fail
              go_quiet (fail)
              go_wp2_with fail
              go_roundw
              case rel => exact ⟨n3 + 1, by omega, by go_num, HR.out _⟩
              case measure => simp [intOf]; omega
            · rw [decide_eq_true (show S[d] < nm from Std.lt_of_le_of_ne (List.not_lt.1 hlx) hq)] at hbl
              rw [decide_eq_false hq] at hbe
              clear hq
              clear hO6 hlx
              generalize S[d] = sd at *
              generalize toB sd = sb at *
              generalize toB nm = nb at *
              go_wp2_with fail
              go_quiet (fail)
              go_wp2_with fail
              go_roundw
              case rel => exact ⟨n3 + 1, by omega, by go_num, HR.out _⟩
              case measure => simp [intOf]; omega
    · have HR := Lib.hid (show Own w wr [rowSs (.slice a3 n3 c3) (sortN (namesU us))] from by
        have e : (namesU us).take k = namesU us := List.take_of_length_le (by have := HL.out; omega)
        rw [e] at hO; exact hO)
      clear hO
      go_wp2_with fail
      go_ret
      exact ⟨_, rfl, HR.out⟩
end Go.Proofs.Ytnjabanjgckeoaa
