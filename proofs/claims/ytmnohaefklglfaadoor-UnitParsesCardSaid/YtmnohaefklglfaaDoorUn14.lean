/- A unit as a value; what is told of a text; whether two units are the same. -/
import Derived.Test.YtmnohaefklglfaaDoorUn13
namespace Go.Proofs.YtmnohaefklglfaaDoor
open Go.RowKit
set_option linter.unusedVariables false
set_option linter.unusedSimpArgs false
set_option maxRecDepth 100000

set_option maxHeartbeats 1000000 in
theorem same13_any (v1 v2 : Value) (ls ms : List (List UInt8)) (w : World) (h1 : Sts w v1 ls) (h2 : Sts w v2 ms) (hl : ls.length ≤ 1000000) (hm : ms.length ≤ 1000000) : Calls Tryd.prog 19 #[v1, v2] w fun e w' => e = .returned (.bool (sameL ls ms)) ∧ ∃ q, w' = w.drewN q := by
  obtain ⟨a, c, rfl, _, _, h3⟩ := h1
  obtain ⟨a2, c2, rfl, _, _, h4⟩ := h2
  by_cases hlen : ls.length = ms.length
  · have H1 := Lib.hid h3
    have H2 := Lib.hid h4
    have HL := Lib.hid hlen
    rw [← hlen]
    clear h3 h4 hlen
    go_enter Tryd.func19, Tryd.ntmps19
    go_wp2_with fail
    go_loopw [5] (fun i wr => ∃ k q : Nat, k ≤ ls.length ∧ i = .int .i64 k ∧ wr = w.drewN q ∧ Hid (∀ j (ha : j < ls.length) (hb : j < ms.length), j < k → ls[j] = ms[j])) (fun i _ => ls.length - (intOf i).toNat)
    case atStart => exact ⟨0, 0, Nat.zero_le _, rfl, rfl, fun j _ _ h => absurd h (by omega)⟩
    case round =>
      obtain ⟨k, q, hk, rfl, rfl, HA⟩ := hrel
      by_cases hlt : k < ls.length
      · obtain ⟨b, o, rfl, hb, hc⟩ := H1.out (by omega)
        obtain ⟨b2, o2, rfl, hb2, hc2⟩ := H2.out (by rw [← HL.out]; omega)
        have c1 := hc k hlt
        have c2 := hc2 k (by rw [← HL.out]; exact hlt)
        have d1 : (w.drewN q).cell? ⟨b, o + k, none⟩ = _ := c1
        have d2 : (w.drewN q).cell? ⟨b2, o2 + k, none⟩ = _ := c2
        have d3 : (w.drewN (q + 1)).cell? ⟨b, o + k, none⟩ = _ := c1
        have d4 : (w.drewN (q + 1)).cell? ⟨b2, o2 + k, none⟩ = _ := c2
        clear hc hc2
        by_cases he : ls[k] = ms[k]'(by rw [← HL.out]; exact hlt)
        · have HB := Lib.hid (show ∀ j (ha : j < ls.length) (hb : j < ms.length), j < k + 1 → ls[j] = ms[j] from fun j ha hb hj => by
            rcases Nat.lt_or_ge j k with h | h
            · exact HA.out j ha hb h
            · obtain rfl : j = k := by omega
              exact he)
          rw [← he] at d2 d4 c2
          clear he
          generalize ls[k] = l at *
          go_wp2_with fail
          go_region
          go_wp2_with fail
          go_roundw
          case rel => exact ⟨k + 1, q + 1, by omega, by go_num, rfl, HB⟩
          case measure => simp [intOf]; omega
        · have HN := Lib.hid (sameL_at k hlt (by rw [← HL.out]; exact hlt) he)
          have he3 : (ls[k] == ms[k]'(by rw [← HL.out]; exact hlt)) = false := beq_eq_false_iff_ne.2 he
          clear he
          generalize ls[k] = l at *
          generalize (ms[k]'(by rw [← HL.out]; exact hlt)) = m at *
          go_wp2_with fail
          go_region
          go_wp2_with fail
          go_ret
          exact ⟨by rw [HN.out]; rfl, _, rfl⟩
      · have HN := Lib.hid (show sameL ls ms = true from sameL_all HL.out fun j ha hb => HA.out j ha hb (by omega))
        go_wp2_with fail
        go_ret
        exact ⟨by rw [HN.out]; rfl, _, rfl⟩
  · rw [sameL_len hlen]
    have hn : ((ls.length : Int) == (ms.length : Int)) = false := by rw [beq_eq_false_iff_ne]; omega
    clear h3 h4
    go_enter Tryd.func19, Tryd.ntmps19
    go_wp2_with fail
    go_ret
    exact ⟨rfl, 0, rfl⟩
/-- A unit as a value. -/
structure UnitAt (w : World) (name : List UInt8) (v0 v1 v2 v3 v4 v5 : Value) (l0 l1 l2 l3 l4 l5 : List (List UInt8)) : Prop where
  s0 : Sts w v0 l0
  s1 : Sts w v1 l1
  s2 : Sts w v2 l2
  s3 : Sts w v3 l3
  s4 : Sts w v4 l4
  s5 : Sts w v5 l5
def UnitV (w : World) (v : Value) (u : UD) : Prop := ∃ v0 v1 v2 v3 v4 v5 l0 l1 l2 l3 l4 l5, v = .agg #[.string (toB u.name), v0, v1, v2, v3, v4, v5, .int .i64 (retU u)] ∧ u.ls = [l0, l1, l2, l3, l4, l5] ∧ UnitAt w u.name v0 v1 v2 v3 v4 v5 l0 l1 l2 l3 l4 l5
theorem UnitV.later {w w' : World} {v : Value} {u : UD} (h : UnitV w v u) (hb : Below w.heap.size w w') : UnitV w' v u := by
  obtain ⟨v0, v1, v2, v3, v4, v5, l0, l1, l2, l3, l4, l5, e1, e2, h3⟩ := h
  exact ⟨v0, v1, v2, v3, v4, v5, l0, l1, l2, l3, l4, l5, e1, e2, ⟨h3.s0.later hb, h3.s1.later hb, h3.s2.later hb, h3.s3.later hb, h3.s4.later hb, h3.s5.later hb⟩⟩
theorem parse_one (w : World) (hm : Mx w) (s : List UInt8) (hs : s.length ≤ 100000) :
    Calls Tryd.prog 7 #[.string (toB s)] w fun e w' => (∃ v, e = .returned (.tuple #[v, .int .i64 (parseU s).1, .int .i64 ((parseU s).2.1 : Nat)]) ∧ UnitV w' v (parseU s).2.2) ∧ Below w.heap.size w w' := by
  refine (parse_any w hm s hs).mono fun e w' h => ?_
  obtain ⟨vs, hvs, he, hO⟩ := h
  have h6 := (UOk.parse s).six
  refine ⟨⟨_, he, ?_⟩, hO.below⟩
  obtain ⟨v0, v1, v2, v3, v4, v5, rfl⟩ : ∃ a b c d e f, vs = [a, b, c, d, e, f] := by
    match vs, hvs with
    | [a, b, c, d, e, f], _ => exact ⟨a, b, c, d, e, f, rfl⟩
  obtain ⟨l0, l1, l2, l3, l4, l5, hl⟩ : ∃ a b c d e f, (parseU s).2.2.ls = [a, b, c, d, e, f] := by
    match hq : (parseU s).2.2.ls, h6 with
    | [a, b, c, d, e, f], _ => exact ⟨a, b, c, d, e, f, rfl⟩
  rw [hl] at hO
  have one : ∀ {v l}, rowSs v l ∈ rowsU [v0, v1, v2, v3, v4, v5] [l0, l1, l2, l3, l4, l5] → Sts w' v l := fun {v l} hm => by
    obtain ⟨A, B, e⟩ := List.append_of_mem hm
    rw [e] at hO
    exact (hO.perm List.perm_middle).sts
  exact ⟨v0, v1, v2, v3, v4, v5, l0, l1, l2, l3, l4, l5, rfl, hl, ⟨one (by simp [rowsU]), one (by simp [rowsU]), one (by simp [rowsU]), one (by simp [rowsU]), one (by simp [rowsU]), one (by simp [rowsU])⟩⟩
set_option maxHeartbeats 4000000 in
theorem plain_any (w : World) (v : Value) (u : UD) (h : UnitV w v u) : Calls Tryd.prog 10 #[v] w fun e w' => e = .returned v ∧ Below w.heap.size w w' := by
  obtain ⟨v0, v1, v2, v3, v4, v5, l0, l1, l2, l3, l4, l5, rfl, _, h3⟩ := h
  obtain ⟨a0, c0, rfl, _⟩ := h3.s0
  obtain ⟨a1, c1, rfl, _⟩ := h3.s1
  obtain ⟨a2, c2, rfl, _⟩ := h3.s2
  obtain ⟨a3, c3, rfl, _⟩ := h3.s3
  obtain ⟨a4, c4, rfl, _⟩ := h3.s4
  obtain ⟨a5, c5, rfl, _⟩ := h3.s5
  clear h3
  generalize toB u.name = ns
  generalize retU u = ru
  generalize l0.length = m0
  generalize l1.length = m1
  generalize l2.length = m2
  generalize l3.length = m3
  generalize l4.length = m4
  generalize l5.length = m5
  go_enter Tryd.func10, Tryd.ntmps10
  go_wp2_with fail
  have hg : ((w.alloc (.cells #[.string ns, .slice a0 m0 c0, .slice a1 m1 c1, .slice a2 m2 c2, .slice a3 m3 c3, .slice a4 m4 c4, .slice a5 m5 c5, .int .i64 ru] 25)).alloc (.cells #[.string ns, .slice a0 m0 c0, .slice a1 m1 c1, .slice a2 m2 c2, .slice a3 m3 c3, .slice a4 m4 c4, .slice a5 m5 c5, .int .i64 ru] 31)).heap[w.heap.size + 1]? = some (.cells #[.string ns, .slice a0 m0 c0, .slice a1 m1 c1, .slice a2 m2 c2, .slice a3 m3 c3, .slice a4 m4 c4, .slice a5 m5 c5, .int .i64 ru] 31) := by
    have := World.alloc_heap_new (w.alloc (.cells #[.string ns, .slice a0 m0 c0, .slice a1 m1 c1, .slice a2 m2 c2, .slice a3 m3 c3, .slice a4 m4 c4, .slice a5 m5 c5, .int .i64 ru] 25)) (.cells #[.string ns, .slice a0 m0 c0, .slice a1 m1 c1, .slice a2 m2 c2, .slice a3 m3 c3, .slice a4 m4 c4, .slice a5 m5 c5, .int .i64 ru] 31)
    rwa [World.size_alloc] at this
  exact bodyPost_ret (results_cell_row Tryd.results10 _ _ (w.heap.size + 1) 31 _ (0, 0) _ rfl hg Tryd.underlying31 rfl (by kernel_rfl)) rfl ⟨rfl, ((Below.refl _ w).alloc (Nat.le_refl _) _).alloc (by simp) _⟩
/-- Whether two units are the same. -/
def sameU (a b : UD) : Bool := decide (a.name = b.name) && decide (retU a = retU b) && decide (a.ls = b.ls)
theorem beq_toB (a b : List UInt8) : ((toB a).toList == (toB b).toList) = decide (a = b) := by
  rw [toList_toB, toList_toB, Bool.eq_iff_iff, beq_iff_eq, decide_eq_true_iff]
set_option maxHeartbeats 8000000 in
theorem sameunit_any (w : World) (x y : Value) (u z : UD) (h1 : UnitV w x u) (h2 : UnitV w y z) (b1 : ∀ l ∈ u.ls, l.length ≤ 1000000) (b2 : ∀ l ∈ z.ls, l.length ≤ 1000000) : Calls Tryd.prog 9 #[x, y] w fun e w' => e = .returned (.bool (sameU u z)) ∧ Below w.heap.size w w' := by
  obtain ⟨v0, v1, v2, v3, v4, v5, l0, l1, l2, l3, l4, l5, rfl, hu, h3⟩ := h1
  obtain ⟨x0, x1, x2, x3, x4, x5, k0, k1, k2, k3, k4, k5, rfl, hz, h4⟩ := h2
  unfold sameU
  rw [hu] at b1 ⊢
  rw [hz] at b2 ⊢
  have kn := beq_toB u.name z.name
  obtain ⟨W2, hW2⟩ : ∃ W2, W2 = (w.alloc (.cells #[.string (toB u.name), v0, v1, v2, v3, v4, v5, .int .i64 (retU u)] 31)).alloc (.cells #[.string (toB z.name), x0, x1, x2, x3, x4, x5, .int .i64 (retU z)] 31) := ⟨_, rfl⟩
  have hb2 : Below w.heap.size w W2 := by rw [hW2]; exact ((Below.refl _ w).alloc (Nat.le_refl _) _).alloc (by simp) _
  have rows : ∀ j, j < 5 → ∃ va la vb lb, (#[.string (toB u.name), v0, v1, v2, v3, v4, v5, .int .i64 (retU u)] : Array Value)[2 + j]? = some va ∧ (#[.string (toB z.name), x0, x1, x2, x3, x4, x5, .int .i64 (retU z)] : Array Value)[2 + j]? = some vb ∧ Sts w va la ∧ Sts w vb lb ∧ [l0, l1, l2, l3, l4, l5][1 + j]? = some la ∧ [k0, k1, k2, k3, k4, k5][1 + j]? = some lb ∧ la.length ≤ 1000000 ∧ lb.length ≤ 1000000 := fun j hj => by
    match j, hj with
    | 0, _ => exact ⟨_, _, _, _, rfl, rfl, h3.s1, h4.s1, rfl, rfl, b1 _ (by simp), b2 _ (by simp)⟩
    | 1, _ => exact ⟨_, _, _, _, rfl, rfl, h3.s2, h4.s2, rfl, rfl, b1 _ (by simp), b2 _ (by simp)⟩
    | 2, _ => exact ⟨_, _, _, _, rfl, rfl, h3.s3, h4.s3, rfl, rfl, b1 _ (by simp), b2 _ (by simp)⟩
    | 3, _ => exact ⟨_, _, _, _, rfl, rfl, h3.s4, h4.s4, rfl, rfl, b1 _ (by simp), b2 _ (by simp)⟩
    | 4, _ => exact ⟨_, _, _, _, rfl, rfl, h3.s5, h4.s5, rfl, rfl, b1 _ (by simp), b2 _ (by simp)⟩
  have hsame0 := same13_any v0 x0 l0 k0 W2 (h3.s0.later (hb2.mono (Nat.le_refl _))) (h4.s0.later hb2) (b1 _ (by simp)) (b2 _ (by simp))
  have Rows := Lib.hid rows
  have Hb2 := Lib.hid hb2
  clear rows hb2 h3 h4 b1 b2 hu hz
  generalize retU u = ru at *
  generalize retU z = rz at *
  by_cases hn : u.name = z.name
  · rw [decide_eq_true hn] at kn ⊢
    clear hn
    generalize toB u.name = ns at *
    generalize toB z.name = nz at *
    by_cases hr : ru = rz
    · rw [decide_eq_true hr, Bool.true_and, Bool.true_and]
      subst hr
      by_cases h0 : l0 = k0
      · rw [show sameL l0 k0 = true from decide_eq_true h0] at hsame0
        subst h0
        have g1 : W2.heap[w.heap.size]? = some (.cells #[.string ns, v0, v1, v2, v3, v4, v5, .int .i64 ru] 31) := by
          rw [hW2, Below.heap_alloc _ _ _ (by simp)]; exact World.alloc_heap_new w _
        have g2 : W2.heap[w.heap.size + 1]? = some (.cells #[.string nz, x0, x1, x2, x3, x4, x5, .int .i64 ru] 31) := by
          rw [hW2]
          have := World.alloc_heap_new (w.alloc (.cells #[.string ns, v0, v1, v2, v3, v4, v5, .int .i64 ru] 31)) (.cells #[.string nz, x0, x1, x2, x3, x4, x5, .int .i64 ru] 31)
          rwa [World.size_alloc] at this
        have G1 := Lib.hid g1
        have G2 := Lib.hid g2
        have HW2 := Lib.hid hW2
        clear g1 g2 hW2
        go_enter Tryd.func9, Tryd.ntmps9
        go_wp2_with (go_at_call 19; rw [← HW2.out]; refine hsame0.mono ?_; rintro e w3 ⟨rfl, q, hq3⟩)
        clear hsame0
        go_loopw [5] (fun i wr => ∃ k q : Nat, k ≤ 5 ∧ i = .int .i64 k ∧ Hid (wr = W2.drewN q) ∧ Hid ([l0, l1, l2, l3, l4, l5].take (1 + k) = [l0, k1, k2, k3, k4, k5].take (1 + k))) (fun i _ => 5 - (intOf i).toNat)
        case atStart => exact ⟨0, q, Nat.zero_le _, rfl, rfl, rfl⟩
        case round =>
          obtain ⟨k, q, hk, rfl, hwr, HA⟩ := hrel
          have hbr : Below w.heap.size w wr := by rw [hwr.out]; exact Hb2.out.trans ⟨rfl, rfl, rfl, Nat.le_refl _, fun _ _ => rfl⟩
          have HBR := Lib.hid hbr
          clear hbr
          by_cases hlt : k < 5
          · obtain ⟨va, la, vb, lb, e1, e2, sa, sb, e3, e4, ba, bb⟩ := Rows.out k hlt
            have c1 : wr.drew.cell? ⟨w.heap.size, 2 + k, none⟩ = some va := by
              rw [hwr.out]
              show W2.cell? _ = _
              rw [cell_at G1.out (2 + k)]; exact e1
            have c2 : wr.drew.cell? ⟨w.heap.size + 1, 2 + k, none⟩ = some vb := by
              rw [hwr.out]
              show W2.cell? _ = _
              rw [cell_at G2.out (2 + k)]; exact e2
            have hsm := same13_any va vb la lb wr.drew ((sa.later HBR.out).later (Below.refl _ _).drew) ((sb.later HBR.out).later (Below.refl _ _).drew) ba bb
            clear e1 e2 sa sb ba bb
            go_wp2_with fail
            go_still_tail 8, (by kernel_rfl)
            change wpList _ _ _ _ _ wr.drew
            by_cases hab : la = lb
            · have HA2 := Lib.hid (show [l0, l1, l2, l3, l4, l5].take (1 + (k + 1)) = [l0, k1, k2, k3, k4, k5].take (1 + (k + 1)) from by
                rw [show 1 + (k + 1) = (1 + k) + 1 from by omega, take_snoc e3, take_snoc e4, HA.out, hab])
              rw [show sameL la lb = true from decide_eq_true hab] at hsm
              clear hab
              go_wp2_with (go_at_call 19; refine hsm.mono ?_; rintro e w3 ⟨rfl, q2, rfl⟩)
              go_roundw
              case rel => exact ⟨k + 1, q + 1 + q2, by omega, by go_num, Lib.hid (by rw [hwr.out, World.drewN_drewN]; congr 1; omega), HA2⟩
              case measure => simp [intOf]; omega
            · have HN := Lib.hid (show decide ([l0, l1, l2, l3, l4, l5] = [l0, k1, k2, k3, k4, k5]) = false from decide_eq_false fun e => hab (by
                rw [e] at e3
                exact Option.some.inj (e3.symm.trans e4)))
              rw [show sameL la lb = false from decide_eq_false hab] at hsm
              clear hab
              go_wp2_with (go_at_call 19; refine hsm.mono ?_; rintro e w3 ⟨rfl, q2, rfl⟩)
              go_ret
              exact ⟨by rw [HN.out]; rfl, HBR.out.drew.trans ⟨rfl, rfl, rfl, Nat.le_refl _, fun _ _ => rfl⟩⟩
          · obtain rfl : k = 5 := by omega
            have HN := Lib.hid (show decide ([l0, l1, l2, l3, l4, l5] = [l0, k1, k2, k3, k4, k5]) = true from decide_eq_true HA.out)
            go_wp2_with fail
            go_ret
            exact ⟨by rw [HN.out]; rfl, HBR.out⟩
      · rw [show sameL l0 k0 = false from decide_eq_false h0] at hsame0
        rw [decide_eq_false (fun e => h0 (List.cons.inj e).1)]
        have HW2 := Lib.hid hW2
        clear h0 hW2
        go_enter Tryd.func9, Tryd.ntmps9
        go_wp2_with (go_at_call 19; rw [← HW2.out]; refine hsame0.mono ?_; rintro e w3 ⟨rfl, q, rfl⟩)
        go_ret
        exact ⟨rfl, Hb2.out.trans ⟨rfl, rfl, rfl, Nat.le_refl _, fun _ _ => rfl⟩⟩
    · rw [decide_eq_false hr]
      clear hsame0 Rows
      go_enter Tryd.func9, Tryd.ntmps9
      go_wp2_with fail
      rw [← hW2]
      go_ret
      exact ⟨rfl, Hb2.out⟩
  · rw [decide_eq_false hn] at kn ⊢
    clear hn hsame0 Rows
    generalize toB u.name = ns at *
    generalize toB z.name = nz at *
    go_enter Tryd.func9, Tryd.ntmps9
    go_wp2_with fail
    rw [← hW2]
    go_ret
    exact ⟨rfl, Hb2.out⟩
end Go.Proofs.YtmnohaefklglfaaDoor
