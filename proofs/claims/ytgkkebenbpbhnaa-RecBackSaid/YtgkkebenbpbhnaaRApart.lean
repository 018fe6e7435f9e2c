/- 'RecApart': of whatever bytes the law returns true, and writes nothing that was there. -/
import Derived.Test.YtgkkebenbpbhnaaRBounds
import Derived.Deep.RegionWith
import Derived.Deep.DrawnRows
namespace Go.Proofs.Ytgkkebenbpbhnaa
open Go.RowKit
set_option linter.unusedVariables false
set_option linter.unusedSimpArgs false

/-! ### What is packed is taken again: plain data -/
theorem num4_le4 (n : Int) (h0 : 0 ≤ n) (h1 : n < 4294967296) (l : List Int) : num4 (le4 n ++ l) = n := by
  unfold num4 le4
  simp
  omega
theorem num4_sizedL (zs l : List Int) (h : zs.length < 4294967296) : num4 (sizedL zs ++ l) = zs.length := by
  unfold sizedL
  rw [List.append_assoc, num4_le4 _ (by omega) (by omega)]
theorem isSized_sizedL (zs l : List Int) (most : Int) (h : zs.length < 4294967296) (hm : (zs.length : Int) ≤ most) : isSized (sizedL zs ++ l) most := by
  refine ⟨?_, ?_, ?_⟩
  · rw [List.length_append, sizedL_length]; omega
  · rw [num4_sizedL _ _ h]; exact hm
  · rw [num4_sizedL _ _ h, List.length_append, sizedL_length]; omega
theorem drop4_sizedL (zs l : List Int) : (sizedL zs ++ l).drop 4 = zs ++ l := by
  unfold sizedL le4
  rfl
theorem bodyOf_sizedL (zs l : List Int) (h : zs.length < 4294967296) : bodyOf (sizedL zs ++ l) = zs := by
  unfold bodyOf
  rw [num4_sizedL _ _ h, drop4_sizedL, Int.toNat_natCast, List.take_left']
  rfl
theorem restOf_sizedL (zs l : List Int) (h : zs.length < 4294967296) : restOf (sizedL zs ++ l) = l := by
  unfold restOf
  rw [num4_sizedL _ _ h, drop4_sizedL, Int.toNat_natCast, List.drop_left']
  rfl
theorem sb_strOfNums (zs : List Int) (h : Byts zs) : sb (strOfNums zs) = zs := by
  unfold sb strOfNums
  simp only [List.map_map]
  conv => rhs; rw [← List.map_id zs]
  refine List.map_congr_left fun z hz => ?_
  have := h z hz
  simp
  omega
theorem strOfNums_size (zs : List Int) : (strOfNums zs).size = zs.length := by
  show (List.toArray _).size = _
  simp

def pz (A B : List Int) : List Int := sizedL A ++ sizedL (sizedL B ++ sizedL A)

theorem Own.unthird' {W0 w : World} {p q r : Rw} {L : List Rw} (h : Own W0 w (p :: q :: r :: L)) : Own W0 w (r :: p :: q :: L) := h.third
theorem Own.keep5 {W0 w : World} {p a b c d : Rw} {L : List Rw} (h : Own W0 w ([p] ++ ([a] ++ ([b] ++ ([c] ++ ([d] ++ L)))))) : Own W0 w (p :: L) := h.of_mem (.cons_cons _ (.cons _ (.cons _ (.cons _ (.cons _ (List.Sublist.refl _))))))
theorem Byts.set {ys : List Int} (h : Byts ys) (k : Nat) (z : Int) (hz : 0 ≤ z ∧ z < 256) : Byts (ys.set k z) := fun u hu => by
  rcases List.mem_or_eq_of_mem_set hu with h1 | rfl
  · exact h u h1
  · exact hz
theorem inc_row {W0 w : World} {g n c : Nat} {ys : List Int} {L : List Rw} (h : Own W0 w (⟨5, 1, .slice (some ⟨g, 0, none⟩) n c, n, bs ys⟩ :: L)) (k : Nat) (z : Int) :
    Own W0 (w.setCell ⟨g, k, none⟩ (.int .u8 z)) (⟨5, 1, .slice (some ⟨g, 0, none⟩) n c, n, bs (ys.set k z)⟩ :: L) := by
  have := Own.set (h := h) k (.int .u8 z)
  simpa only [bs, List.map_set] using this
theorem pz_length (A B : List Int) (hA : A.length ≤ 100) (hB : B.length ≤ 100) : (pz A B).length ≤ 320 := by
  unfold pz
  rw [List.length_append, sizedL_length, sizedL_length, List.length_append, sizedL_length, sizedL_length]; omega
theorem pz_all (A B : List Int) (ha : Byts A) (hb : Byts B) (hA : A.length ≤ 100) (hB : B.length ≤ 100) : Byts (pz A B) :=
  (sizedL_byts A ha (by omega)).append (sizedL_byts _ ((sizedL_byts B hb (by omega)).append (sizedL_byts A ha (by omega))) (by rw [List.length_append, sizedL_length, sizedL_length]; omega))
theorem two_by {w : World} {u v : Value} {a b : List Int} (h : By w u a) (k : By w v b) : ∀ p ∈ [(u, a), (v, b)], By w p.1 p.2 := by
  intro p hp
  simp only [List.mem_cons, List.not_mem_nil, or_false] at hp
  rcases hp with rfl | rfl <;> assumption
theorem pz_byts (A B : List Int) (ha : Byts A) (hb : Byts B) (hA : A.length ≤ 100) (hB : B.length ≤ 100) : Byts (sizedL (sizedL B ++ sizedL A)) :=
  sizedL_byts _ ((sizedL_byts B hb (by omega)).append (sizedL_byts A ha (by omega))) (by rw [List.length_append, sizedL_length, sizedL_length]; omega)
attribute [local go_sem ↓] Go.wp_at_zero Go.wp_at_succ

set_option maxHeartbeats 3200000 in
set_option maxRecDepth 100000 in
theorem apart_long (va vb : Value) (A B : List Int) (w : World) (ha : By w va A) (hb : By w vb B) (hl : 100 < A.length ∨ 100 < B.length) :
    Calls Try.prog 5 #[va, vb] w fun e w' => e = .returned (.bool true) ∧ Below w.heap.size w w' := by
  obtain ⟨_, _, a, c, rfl, _, _⟩ := ha
  obtain ⟨_, _, a', c', rfl, _, _⟩ := hb
  by_cases h1 : 100 < A.length
  · go_enter Try.func5, Try.ntmps5
    go_wp2_with (go_at_call 6; refine (alive_any _).mono ?_; rintro e w1 ⟨rfl, hb1⟩)
    go_ret
    exact ⟨rfl, hb1⟩
  · have h2 : 100 < B.length := by omega
    have h1' : A.length ≤ 100 := by omega
    go_enter Try.func5, Try.ntmps5
    go_wp2_with (go_at_call 6; refine (alive_any _).mono ?_; rintro e w1 ⟨rfl, hb1⟩)
    go_ret
    exact ⟨rfl, hb1⟩

set_option maxHeartbeats 6400000 in
set_option maxRecDepth 100000 in
theorem apart_short (va vb : Value) (A B : List Int) (w : World) (ha : By w va A) (hb : By w vb B) (hlA : A.length ≤ 100) (hlB : B.length ≤ 100) :
    Calls Try.prog 5 #[va, vb] w fun e w' => e = .returned (.bool true) ∧ Below w.heap.size w w' := by
  obtain ⟨i0, hi, hz0, hz1, hz2⟩ := info_parts info_u
  have HA := Lib.hid ha
  have HB := Lib.hid hb
  have hzA := Lib.hid ha.2.1
  have hzB := Lib.hid hb.2.1
  obtain ⟨_, _, a, c, rfl, _, _⟩ := ha
  obtain ⟨_, _, a', c', rfl, _, _⟩ := hb
  have LA : A.length < 4294967296 := by omega
  have LB : B.length < 4294967296 := by omega
  go_enter Try.func5, Try.ntmps5
  go_upto_region 5 with (go_at_call 6; refine (alive_any _).mono ?_; rintro e w1 ⟨rfl, hb1⟩)
  have hO1 := (Own.of_below hb1).made 5 1 #[] 0 rfl (Nat.zero_le _)
  have HO1 := Lib.hid hO1
  have Hs := Lib.hid (HA.out.later hO1.below).1
  clear hO1 hb1
  go_upto_region 6 with (at_builtin; refine wpList_append_src rfl (.tmp 25) (.tmp 26) 26 rfl (.slice (some ⟨w1.heap.size, 0, none⟩) 0 0) 0 [] (.slice a A.length c) A.length (bs A) rfl rfl HO1.out i0 (.int .u8 0) 1 Try.underlying26 hi hz0 hz1 hz2 rfl (by decide) Hs.out (by rw [bs_length, Nat.mul_one]) (by unfold maxLen; omega) (by omega) ?_; intro v2 w2 hO2)
  simp only [Nat.zero_add, List.nil_append] at hO2
  have HO2 := Lib.hid (show Own w w2 [rowU v2 A] from hO2)
  obtain ⟨a2, c2, rfl, _, _⟩ := Own.sized (h := HO2.out)
  clear hO2 HO1 Hs
  have hcv := (HA.out.later HO2.out.below).toStr
  have hcv' : Sem.run Try.prog (convert 26 9 (.slice a A.length c)) w2.drew = .ok (.string (strOfNums A)) w2.drew := (HA.out.later HO2.out.below).drew.toStr
  go_cut [6] (fun s6 wc => Own w wc [rowU s6 (pz A B), rowU (.slice a2 A.length c2) A])
  case first =>
    go_region_with (first
      | (go_at_call_of 19 (Value.slice a2 A.length c2); refine (raw_any _ A _ ?_ LA).mono ?_; exact HO2.out.by hzA.out; rintro e w3 ⟨v3, rfl, hO3⟩; obtain ⟨a3, k3, c3, rfl⟩ := hO3.form3; have HO3 := Lib.hid (show Own w w3 ([rowU (.slice a3 k3 c3) (sizedL A)] ++ [rowU (.slice a2 A.length c2) A]) from (by first | exact HO2.out.drew.join hO3 | exact HO2.out.join hO3)); have hcv3 := (HA.out.later HO3.out.below).toStr; clear hO3)
      | (go_at_call_of 19 (Value.slice a' B.length c'); refine (raw_any _ B _ ?_ LB).mono ?_; exact HB.out.later HO3.out.below; rintro e w4 ⟨v4, rfl, hO4⟩; obtain ⟨a4, k4, c4, rfl⟩ := hO4.form3; have HO4 := Lib.hid (HO3.out.join hO4); have hcv4 := (HA.out.later HO4.out.below).toStr; clear hO4)
      | (go_at_call 21; refine (text_any (strOfNums A) _ ?_).mono ?_; (rw [strOfNums_size]; exact LA); rintro e w5 ⟨v5, rfl, hO5⟩; obtain ⟨a5, k5, c5, rfl⟩ := hO5.form3; rw [sb_strOfNums A hzA.out] at hO5; have HO5 := Lib.hid (HO4.out.join hO5); have HP5 := Lib.hid (parts_list w5 30 [(.slice a4 k4 c4, sizedL B), (.slice a5 k5 c5, sizedL A)] (two_by ((HO5.out.only (by simp : rowU (.slice a4 k4 c4) (sizedL B) ∈ _)).by (sizedL_byts B hzB.out LB)) (HO5.out.by (sizedL_byts A hzA.out LA))) w5.heap.size rfl); clear hO5)
      | (go_at_call 20; refine (list_any (some ⟨w5.heap.size, 0, none⟩) 2 [(.slice a4 k4 c4, sizedL B), (.slice a5 k5 c5, sizedL A)] _ HP5.out (by simp [maxLen]) (by rw [allOf_two]; simp [sizedL_length]; omega)).mono ?_; rintro e w6 ⟨v6, rfl, hO6⟩; obtain ⟨a6, k6, c6, rfl⟩ := hO6.form3; rw [allOf_two] at hO6; have HO6 := Lib.hid ((HO5.out.alloc (.cells #[.slice a4 k4 c4, .slice a5 k5 c5] 30)).join hO6); have HP6 := Lib.hid (parts_list w6 30 [(.slice a3 k3 c3, sizedL A), (.slice a6 k6 c6, sizedL (sizedL B ++ sizedL A))] (two_by ((HO6.out.only (by simp : rowU (.slice a3 k3 c3) (sizedL A) ∈ _)).by (sizedL_byts A hzA.out LA)) (HO6.out.by (pz_byts A B hzA.out hzB.out hlA hlB))) w6.heap.size rfl); clear hO6)
      | (go_at_call 9; refine (pack_any (some ⟨w6.heap.size, 0, none⟩) 2 [(.slice a3 k3 c3, sizedL A), (.slice a6 k6 c6, sizedL (sizedL B ++ sizedL A))] _ HP6.out (by simp [maxLen]) (by rw [allOf_two]; simp [sizedL_length]; omega)).mono ?_; rintro e w7 ⟨v7, rfl, hO7⟩; rw [allOf_two] at hO7; have HO7 := Lib.hid (((HO6.out.alloc (.cells #[.slice a3 k3 c3, .slice a6 k6 c6] 30)).join hO7).keep5); clear hO7))
    all_goals (go_wp2_with fail; go_meet; exact HO7.out)
  case rest =>
    clear hcv hcv' HO2
    have HO2 := Lib.hid hcut
    clear hcut
    have hcv := (HA.out.later HO2.out.below).toStr
    have hcv' : Sem.run Try.prog (convert 26 9 (.slice a A.length c)) wc.drew = .ok (.string (strOfNums A)) wc.drew := (HA.out.later HO2.out.below).drew.toStr
    go_upto_region 7 with (fail)
    go_cut [7] (fun s7 wc => Own w wc [rowU s7 (pz A B), rowU u6 (pz A B), rowU (.slice a2 A.length c2) A])
    case first =>
      go_region_with (first
        | (go_at_call_of 19 (Value.slice a A.length c); refine (raw_any _ A _ ?_ LA).mono ?_; exact (HA.out.later HO2.out.below).drew; rintro e w3 ⟨v3, rfl, hO3⟩; obtain ⟨a3, k3, c3, rfl⟩ := hO3.form3; have HO3 := Lib.hid (show Own w w3 ([rowU (.slice a3 k3 c3) (sizedL A)] ++ [rowU u6 (pz A B), rowU (.slice a2 A.length c2) A]) from (by first | exact HO2.out.drew.join hO3 | exact HO2.out.join hO3)); have hcv3 := (HA.out.later HO3.out.below).toStr; clear hO3)
        | (go_at_call_of 19 (Value.slice a' B.length c'); refine (raw_any _ B _ ?_ LB).mono ?_; exact HB.out.later HO3.out.below; rintro e w4 ⟨v4, rfl, hO4⟩; obtain ⟨a4, k4, c4, rfl⟩ := hO4.form3; have HO4 := Lib.hid (HO3.out.join hO4); have hcv4 := (HA.out.later HO4.out.below).toStr; clear hO4)
        | (go_at_call 21; refine (text_any (strOfNums A) _ ?_).mono ?_; (rw [strOfNums_size]; exact LA); rintro e w5 ⟨v5, rfl, hO5⟩; obtain ⟨a5, k5, c5, rfl⟩ := hO5.form3; rw [sb_strOfNums A hzA.out] at hO5; have HO5 := Lib.hid (HO4.out.join hO5); have HP5 := Lib.hid (parts_list w5 30 [(.slice a4 k4 c4, sizedL B), (.slice a5 k5 c5, sizedL A)] (two_by ((HO5.out.only (by simp : rowU (.slice a4 k4 c4) (sizedL B) ∈ _)).by (sizedL_byts B hzB.out LB)) (HO5.out.by (sizedL_byts A hzA.out LA))) w5.heap.size rfl); clear hO5)
        | (go_at_call 20; refine (list_any (some ⟨w5.heap.size, 0, none⟩) 2 [(.slice a4 k4 c4, sizedL B), (.slice a5 k5 c5, sizedL A)] _ HP5.out (by simp [maxLen]) (by rw [allOf_two]; simp [sizedL_length]; omega)).mono ?_; rintro e w6 ⟨v6, rfl, hO6⟩; obtain ⟨a6, k6, c6, rfl⟩ := hO6.form3; rw [allOf_two] at hO6; have HO6 := Lib.hid ((HO5.out.alloc (.cells #[.slice a4 k4 c4, .slice a5 k5 c5] 30)).join hO6); have HP6 := Lib.hid (parts_list w6 30 [(.slice a3 k3 c3, sizedL A), (.slice a6 k6 c6, sizedL (sizedL B ++ sizedL A))] (two_by ((HO6.out.only (by simp : rowU (.slice a3 k3 c3) (sizedL A) ∈ _)).by (sizedL_byts A hzA.out LA)) (HO6.out.by (pz_byts A B hzA.out hzB.out hlA hlB))) w6.heap.size rfl); clear hO6)
        | (go_at_call 9; refine (pack_any (some ⟨w6.heap.size, 0, none⟩) 2 [(.slice a3 k3 c3, sizedL A), (.slice a6 k6 c6, sizedL (sizedL B ++ sizedL A))] _ HP6.out (by simp [maxLen]) (by rw [allOf_two]; simp [sizedL_length]; omega)).mono ?_; rintro e w7 ⟨v7, rfl, hO7⟩; rw [allOf_two] at hO7; have HO7 := Lib.hid (((HO6.out.alloc (.cells #[.slice a3 k3 c3, .slice a6 k6 c6] 30)).join hO7).keep5); clear hO7))
      all_goals (go_wp2_with fail; go_meet; exact HO7.out)
    case rest =>
      clear hcv hcv' HO2
      obtain ⟨a6, k6, c6, rfl⟩ := hcut.tail.form3
      obtain ⟨a7, k7, c7, rfl⟩ := hcut.form3
      have HO := Lib.hid hcut.unthird'
      clear hcut
      go_wp2_with fail
      go_loopw [52] (fun t wr => ∃ (k : Nat) (ys : List Int), k ≤ A.length ∧ t = .int .i64 k ∧ ys.length = A.length ∧ Byts ys ∧ Own w wr [⟨5, 1, .slice a2 A.length c2, A.length, bs ys⟩, rowU (.slice a7 k7 c7) (pz A B), rowU (.slice a6 k6 c6) (pz A B)]) (fun t _ => A.length - (intOf t).toNat)
      case atStart => exact ⟨0, A, Nat.zero_le _, rfl, rfl, hzA.out, HO.out⟩
      case round =>
        obtain ⟨k, ys, hk, rfl, hyl, hyb, hO⟩ := hrel
        by_cases hlt : k < A.length
        · obtain ⟨g, cap, he, _, _, _, _⟩ := hO.form (by omega)
          injection he with e1 e2 e3
          subst e1 e3
          have cx : wr.cell? ⟨g, k, none⟩ = some (.int .u8 (ys.getD k 0)) := by
            rw [Own.cell (h := hO) k (by omega), List.getD_eq_getElem?_getD]
            simp [bs, List.getElem?_eq_getElem (show k < ys.length by omega)]
          have fx : wr.frozen? ⟨g, k, none⟩ = false := Own.free (h := hO) k
          have hz : 0 ≤ ys.getD k 0 ∧ ys.getD k 0 < 256 := by
            rw [List.getD_eq_getElem?_getD, List.getElem?_eq_getElem (show k < ys.length by omega)]
            exact hyb _ (List.getElem_mem _)
          have HO := Lib.hid hO
          have Hyl := Lib.hid hyl
          have Hyb := Lib.hid hyb
          clear hO hyl hyb
          generalize ys.getD k 0 = z at *
          go_wp2_with fail
          exact ⟨⟨k + 1, ys.set k ((z + 1) % 256), by omega, by go_num, by rw [List.length_set]; exact Hyl.out, Hyb.out.set k _ (by omega), inc_row HO.out k _⟩, by simp [intOf]; omega⟩
        · obtain rfl : k = A.length := by omega
          have HX := Lib.hid hO
          have hp7 := (hO.tail.by (pz_all A B hzA.out hzB.out hlA hlB))
          have hp6 := (hO.tail.tail.by (pz_all A B hzA.out hzB.out hlA hlB))
          have Hp7 := Lib.hid hp7
          have Hp6 := Lib.hid hp6
          clear hO hyl hyb hp7 hp6
          go_wp2_with fail
          refine (same_yes _ _ (pz A B) wr Hp6.out Hp7.out).mono ?_
          rintro e w' ⟨rfl, rfl⟩
          go_wp2_with fail
          refine (read_any _ (pz A B) wr Hp6.out (by have := pz_length A B hlA hlB; omega)).mono ?_
          rintro e w5 ⟨r, v3, rfl, hO5, hq5⟩
          have HO5 := Lib.hid (HX.out.join hO5)
          have Hq5 := Lib.hid (hq5.mono (fun _ hm => List.mem_append_left _ hm) : Pc ([rowU v3 (pz A B)] ++ [⟨5, 1, .slice a2 A.length c2, A.length, bs ys⟩, rowU (.slice a7 k7 c7) (pz A B), rowU (.slice a6 k6 c6) (pz A B)]) v3 (pz A B))
          clear hO5 hq5
          go_wp2_with fail
          refine (rraw_yes w w5 r v3 false _ (pz A B) 200 HO5.out Hq5.out (isSized_sizedL A _ 200 LA (by omega))).mono ?_
          rintro e w6 ⟨vy, v4, rfl, hO6, hq6⟩
          have e6 : bodyOf (pz A B) = A := bodyOf_sizedL A _ LA
          have e6' : restOf (pz A B) = sizedL (sizedL B ++ sizedL A) := restOf_sizedL A _ LA
          rw [e6] at hO6
          rw [e6'] at hq6
          obtain ⟨ay, cy, rfl, _, _⟩ := Own.sized (h := hO6)
          have HO6 := Lib.hid hO6
          have Hq6 := Lib.hid hq6
          clear hO6 hq6 e6 e6' HX HO5 Hq5
          go_wp2_with fail
          generalize hL : [rowU v3 (pz A B)].append [⟨5, 1, .slice a2 A.length c2, A.length, bs ys⟩, rowU (.slice a7 k7 c7) (pz A B), rowU (.slice a6 k6 c6) (pz A B)] = L5 at HO6 Hq6
          have hm6 : rowU (.slice a6 k6 c6) (pz A B) ∈ L5 := by rw [← hL]; simp
          have hm7 : rowU (.slice a7 k7 c7) (pz A B) ∈ L5 := by rw [← hL]; simp
          have Hm6 := Lib.hid hm6
          have Hm7 := Lib.hid hm7
          clear hL hm6 hm7
          clear Hp6 Hp7
          go_loopw [72] (fun t wr => ∃ (k : Nat) (ys : List Int), k ≤ A.length ∧ t = .int .i64 k ∧ ys.length = A.length ∧ Byts ys ∧ Own w wr (⟨5, 1, .slice ay A.length cy, A.length, bs ys⟩ :: rowR r v4 false :: L5)) (fun t _ => A.length - (intOf t).toNat)
          case atStart => exact ⟨0, A, Nat.zero_le _, rfl, rfl, hzA.out, HO6.out⟩
          case round =>
            obtain ⟨k, ys, hk, rfl, hyl, hyb, hO⟩ := hrel
            by_cases hlt : k < A.length
            · obtain ⟨g, cap, he, _, _, _, _⟩ := hO.form (by omega)
              injection he with e1 e2 e3
              subst e1 e3
              have cx : wr.cell? ⟨g, k, none⟩ = some (.int .u8 (ys.getD k 0)) := by
                rw [Own.cell (h := hO) k (by omega), List.getD_eq_getElem?_getD]
                simp [bs, List.getElem?_eq_getElem (show k < ys.length by omega)]
              have fx : wr.frozen? ⟨g, k, none⟩ = false := Own.free (h := hO) k
              have hz : 0 ≤ ys.getD k 0 ∧ ys.getD k 0 < 256 := by
                rw [List.getD_eq_getElem?_getD, List.getElem?_eq_getElem (show k < ys.length by omega)]
                exact hyb _ (List.getElem_mem _)
              have HO := Lib.hid hO
              have Hyl := Lib.hid hyl
              have Hyb := Lib.hid hyb
              clear hO hyl hyb
              generalize ys.getD k 0 = z at *
              go_wp2_with fail
              exact ⟨⟨k + 1, ys.set k ((z + 1) % 256), by omega, by go_num, by rw [List.length_set]; exact Hyl.out, Hyb.out.set k _ (by omega), inc_row HO.out k _⟩, by simp [intOf]; omega⟩
            · obtain rfl : k = A.length := by omega
              have HX := Lib.hid hO.swap
              have Hq := Lib.hid (Hq6.out.cons ⟨5, 1, .slice ay A.length cy, A.length, bs ys⟩)
              have Hm6' := Lib.hid (List.mem_cons_of_mem ⟨5, 1, .slice ay A.length cy, A.length, bs ys⟩ Hm6.out)
              have Hm7' := Lib.hid (List.mem_cons_of_mem ⟨5, 1, .slice ay A.length cy, A.length, bs ys⟩ Hm7.out)
              clear hO hyl hyb HO6 Hq6 Hm6 Hm7
              generalize (⟨5, 1, .slice ay A.length cy, A.length, bs ys⟩ :: L5 : List Rw) = L6 at *
              have eI : isSized (sizedL (sizedL B ++ sizedL A)) 16777216 := by
                have := isSized_sizedL (sizedL B ++ sizedL A) [] 16777216 (by rw [List.length_append, sizedL_length, sizedL_length]; omega) (by rw [List.length_append, sizedL_length, sizedL_length]; omega)
                rwa [List.append_nil] at this
              have eB : bodyOf (sizedL (sizedL B ++ sizedL A)) = sizedL B ++ sizedL A := by
                have := bodyOf_sizedL (sizedL B ++ sizedL A) [] (by rw [List.length_append, sizedL_length, sizedL_length]; omega)
                rwa [List.append_nil] at this
              have eR : restOf (sizedL (sizedL B ++ sizedL A)) = [] := by
                have := restOf_sizedL (sizedL B ++ sizedL A) [] (by rw [List.length_append, sizedL_length, sizedL_length]; omega)
                rwa [List.append_nil] at this
              have EI := Lib.hid eI
              have EB := Lib.hid eB
              have ER := Lib.hid eR
              clear eI eB eR
              go_wp2_with fail
              refine (rlist_yes w wr r v4 false L6 _ HX.out Hq.out EI.out).mono ?_
              rintro e w7 ⟨r2, v5, v6, rfl, hO7, hq7, hs7⟩
              rw [EB.out] at hq7
              rw [ER.out] at hs7
              have HO7 := Lib.hid hO7
              have Hq7 := Lib.hid (hq7.cons (rowR r v6 false))
              have Hs7 := Lib.hid hs7
              clear hO7 hq7 hs7
              go_wp2_with fail
              refine (rraw_yes w w7 r2 v5 false _ _ 200 HO7.out Hq7.out (isSized_sizedL B _ 200 LB (by omega))).mono ?_
              rintro e w8 ⟨vz, v8, rfl, hO8, hq8⟩
              rw [bodyOf_sizedL B _ LB] at hO8
              rw [restOf_sizedL B _ LB] at hq8
              obtain ⟨az, kz, cz, rfl⟩ := hO8.form3
              have HO8 := Lib.hid hO8.swap
              have Hq8 := Lib.hid (hq8.cons (rowU (.slice az kz cz) B))
              clear hO8 hq8
              have eI2 : isSized (sizedL A) 200 := by
                have := isSized_sizedL A [] 200 LA (by omega)
                rwa [List.append_nil] at this
              have eB2 : bodyOf (sizedL A) = A := by
                have := bodyOf_sizedL A [] LA
                rwa [List.append_nil] at this
              have eR2 : restOf (sizedL A) = [] := by
                have := restOf_sizedL A [] LA
                rwa [List.append_nil] at this
              have EI2 := Lib.hid eI2
              have EB2 := Lib.hid eB2
              have ER2 := Lib.hid eR2
              clear eI2 eB2 eR2
              go_wp2_with fail
              refine (rtext_yes w w8 r2 v8 false _ _ 200 HO8.out Hq8.out EI2.out).mono ?_
              rintro e w9 ⟨v9, rfl, hO9, hq9⟩
              rw [EB2.out]
              rw [ER2.out] at hq9
              have HO9 := Lib.hid hO9
              have Hq9 := Lib.hid hq9
              clear hO9 hq9
              have hcv := (HA.out.later HO9.out.below).toStr
              go_wp2_with fail
              refine (same_yes _ _ B w9 (HO9.out.tail.by hzB.out) (HB.out.later HO9.out.below)).mono ?_
              rintro e w' ⟨rfl, rfl⟩
              go_wp2_with fail
              refine (done_any w w9 r2 v9 false _ [] HO9.out Hq9.out).mono ?_
              rintro e w' ⟨rfl, rfl⟩
              go_wp2_with fail
              refine (done_any w w9 r v6 false _ [] HO9.out.third ((Hs7.out.cons _).cons _)).mono ?_
              rintro e w' ⟨rfl, rfl⟩
              go_wp2_with fail
              refine (same_yes _ _ (pz A B) w9 ((HO9.out.only (List.mem_cons_of_mem _ (List.mem_cons_of_mem _ (List.mem_cons_of_mem _ Hm6'.out)))).by (pz_all A B hzA.out hzB.out hlA hlB)) ((HO9.out.only (List.mem_cons_of_mem _ (List.mem_cons_of_mem _ (List.mem_cons_of_mem _ Hm7'.out)))).by (pz_all A B hzA.out hzB.out hlA hlB))).mono ?_
              rintro e w' ⟨rfl, rfl⟩
              go_wp2_with fail
              go_ret
              exact ⟨rfl, HO9.out.below⟩

theorem apart_any (va vb : Value) (A B : List Int) (w : World) (ha : By w va A) (hb : By w vb B) :
    Calls Try.prog 5 #[va, vb] w fun e w' => e = .returned (.bool true) ∧ Below w.heap.size w w' := by
  by_cases h : 100 < A.length ∨ 100 < B.length
  · exact apart_long va vb A B w ha hb h
  · exact apart_short va vb A B w ha hb (by omega) (by omega)
end Go.Proofs.Ytgkkebenbpbhnaa
