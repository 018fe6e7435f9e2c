/- Units as values, whatever their number is; has; Itoa of any number. -/
import Derived.Test.YtmnohaefklglfaaDoorUn18
import Derived.Lib.LaidTab
namespace Go.Proofs.YtmnohaefklglfaaDoor
open Go.RowKit
set_option linter.unusedVariables false
set_option linter.unusedSimpArgs false
set_option maxRecDepth 100000

def UnitW (w : World) (v : Value) (name : List UInt8) (ls : List (List (List UInt8))) (r : Int) : Prop := ∃ v0 v1 v2 v3 v4 v5 l0 l1 l2 l3 l4 l5, v = .agg #[.string (toB name), v0, v1, v2, v3, v4, v5, .int .i64 r] ∧ ls = [l0, l1, l2, l3, l4, l5] ∧ UnitAt w name v0 v1 v2 v3 v4 v5 l0 l1 l2 l3 l4 l5
theorem UnitW.later {w w' : World} {v : Value} {name : List UInt8} {ls : List (List (List UInt8))} {r : Int} (h : UnitW w v name ls r) (hb : Below w.heap.size w w') : UnitW w' v name ls r := by
  obtain ⟨v0, v1, v2, v3, v4, v5, l0, l1, l2, l3, l4, l5, e1, e2, h3⟩ := h
  exact ⟨v0, v1, v2, v3, v4, v5, l0, l1, l2, l3, l4, l5, e1, e2, ⟨h3.s0.later hb, h3.s1.later hb, h3.s2.later hb, h3.s3.later hb, h3.s4.later hb, h3.s5.later hb⟩⟩
theorem UnitV.w {w : World} {v : Value} {u : UD} (h : UnitV w v u) : UnitW w v u.name u.ls (retU u) := h
set_option maxHeartbeats 4000000 in
theorem plain_w (w : World) (v : Value) (name : List UInt8) (ls : List (List (List UInt8))) (r : Int) (h : UnitW w v name ls r) : Calls Tryd.prog 10 #[v] w fun e w' => e = .returned v ∧ Below w.heap.size w w' := by
  obtain ⟨v0, v1, v2, v3, v4, v5, l0, l1, l2, l3, l4, l5, rfl, _, h3⟩ := h
  obtain ⟨a0, c0, rfl, _⟩ := h3.s0
  obtain ⟨a1, c1, rfl, _⟩ := h3.s1
  obtain ⟨a2, c2, rfl, _⟩ := h3.s2
  obtain ⟨a3, c3, rfl, _⟩ := h3.s3
  obtain ⟨a4, c4, rfl, _⟩ := h3.s4
  obtain ⟨a5, c5, rfl, _⟩ := h3.s5
  clear h3
  generalize toB name = ns
  generalize l0.length = m0
  generalize l1.length = m1
  generalize l2.length = m2
  generalize l3.length = m3
  generalize l4.length = m4
  generalize l5.length = m5
  go_enter Tryd.func10, Tryd.ntmps10
  go_wp2_with fail
  have hg : ((w.alloc (.cells #[.string ns, .slice a0 m0 c0, .slice a1 m1 c1, .slice a2 m2 c2, .slice a3 m3 c3, .slice a4 m4 c4, .slice a5 m5 c5, .int .i64 r] 25)).alloc (.cells #[.string ns, .slice a0 m0 c0, .slice a1 m1 c1, .slice a2 m2 c2, .slice a3 m3 c3, .slice a4 m4 c4, .slice a5 m5 c5, .int .i64 r] 31)).heap[w.heap.size + 1]? = some (.cells #[.string ns, .slice a0 m0 c0, .slice a1 m1 c1, .slice a2 m2 c2, .slice a3 m3 c3, .slice a4 m4 c4, .slice a5 m5 c5, .int .i64 r] 31) := by
    have := World.alloc_heap_new (w.alloc (.cells #[.string ns, .slice a0 m0 c0, .slice a1 m1 c1, .slice a2 m2 c2, .slice a3 m3 c3, .slice a4 m4 c4, .slice a5 m5 c5, .int .i64 r] 25)) (.cells #[.string ns, .slice a0 m0 c0, .slice a1 m1 c1, .slice a2 m2 c2, .slice a3 m3 c3, .slice a4 m4 c4, .slice a5 m5 c5, .int .i64 r] 31)
    rwa [World.size_alloc] at this
  exact bodyPost_ret (results_cell_row Tryd.results10 _ _ (w.heap.size + 1) 31 _ (0, 0) _ rfl hg Tryd.underlying31 rfl (by kernel_rfl)) rfl ⟨rfl, ((Below.refl _ w).alloc (Nat.le_refl _) _).alloc (by simp) _⟩
set_option maxHeartbeats 8000000 in
theorem samew_any (w : World) (x y : Value) (un zn : List UInt8) (uls zls : List (List (List UInt8))) (ru rz : Int) (h1 : UnitW w x un uls ru) (h2 : UnitW w y zn zls rz) (b1 : ∀ l ∈ uls, l.length ≤ 1000000) (b2 : ∀ l ∈ zls, l.length ≤ 1000000) : Calls Tryd.prog 9 #[x, y] w fun e w' => e = .returned (.bool (decide (un = zn) && decide (ru = rz) && decide (uls = zls))) ∧ Below w.heap.size w w' := by
  obtain ⟨v0, v1, v2, v3, v4, v5, l0, l1, l2, l3, l4, l5, rfl, hu, h3⟩ := h1
  obtain ⟨x0, x1, x2, x3, x4, x5, k0, k1, k2, k3, k4, k5, rfl, hz, h4⟩ := h2
  subst hu
  subst hz
  have kn := beq_toB un zn
  obtain ⟨W2, hW2⟩ : ∃ W2, W2 = (w.alloc (.cells #[.string (toB un), v0, v1, v2, v3, v4, v5, .int .i64 ru] 31)).alloc (.cells #[.string (toB zn), x0, x1, x2, x3, x4, x5, .int .i64 rz] 31) := ⟨_, rfl⟩
  have hb2 : Below w.heap.size w W2 := by rw [hW2]; exact ((Below.refl _ w).alloc (Nat.le_refl _) _).alloc (by simp) _
  have rows : ∀ j, j < 5 → ∃ va la vb lb, (#[.string (toB un), v0, v1, v2, v3, v4, v5, .int .i64 ru] : Array Value)[2 + j]? = some va ∧ (#[.string (toB zn), x0, x1, x2, x3, x4, x5, .int .i64 rz] : Array Value)[2 + j]? = some vb ∧ Sts w va la ∧ Sts w vb lb ∧ [l0, l1, l2, l3, l4, l5][1 + j]? = some la ∧ [k0, k1, k2, k3, k4, k5][1 + j]? = some lb ∧ la.length ≤ 1000000 ∧ lb.length ≤ 1000000 := fun j hj => by
    match j, hj with
    | 0, _ => exact ⟨_, _, _, _, rfl, rfl, h3.s1, h4.s1, rfl, rfl, b1 _ (by simp), b2 _ (by simp)⟩
    | 1, _ => exact ⟨_, _, _, _, rfl, rfl, h3.s2, h4.s2, rfl, rfl, b1 _ (by simp), b2 _ (by simp)⟩
    | 2, _ => exact ⟨_, _, _, _, rfl, rfl, h3.s3, h4.s3, rfl, rfl, b1 _ (by simp), b2 _ (by simp)⟩
    | 3, _ => exact ⟨_, _, _, _, rfl, rfl, h3.s4, h4.s4, rfl, rfl, b1 _ (by simp), b2 _ (by simp)⟩
    | 4, _ => exact ⟨_, _, _, _, rfl, rfl, h3.s5, h4.s5, rfl, rfl, b1 _ (by simp), b2 _ (by simp)⟩
  have hsame0 := same13_any v0 x0 l0 k0 W2 (h3.s0.later (hb2.mono (Nat.le_refl _))) (h4.s0.later hb2) (b1 _ (by simp)) (b2 _ (by simp))
  have Rows := Lib.hid rows
  have Hb2 := Lib.hid hb2
  clear rows hb2 h3 h4 b1 b2
  by_cases hn : un = zn
  · rw [decide_eq_true hn] at kn ⊢
    clear hn
    generalize toB un = ns at *
    generalize toB zn = nz at *
    by_cases hr : ru = rz
    · rw [decide_eq_true hr, Bool.true_and, Bool.true_and]
      subst hr
      by_cases h0 : l0 = k0
      · rw [show sameL l0 k0 = true from decide_eq_true h0] at hsame0
        subst h0
        have g1 : W2.heap[w.heap.size]? = some (.cells #[.string ns, v0, v1, v2, v3, v4, v5, .int .i64 ru] 31) := by
          rw [hW2, Below.heap_alloc _ _ _ (by simp)]; exact World.alloc_heap_new w _
        have g2 : W2.heap[w.heap.size + 1]? = some (.cells #[.string nz, x0, x1, x2, x3, x4, x5, .int .i64 ru] 31) := by
          rw [hW2]
          have := World.alloc_heap_new (w.alloc (.cells #[.string ns, v0, v1, v2, v3, v4, v5, .int .i64 ru] 31)) (.cells #[.string nz, x0, x1, x2, x3, x4, x5, .int .i64 ru] 31)
          rwa [World.size_alloc] at this
        have G1 := Lib.hid g1
        have G2 := Lib.hid g2
        have HW2 := Lib.hid hW2
        clear g1 g2 hW2
        go_enter Tryd.func9, Tryd.ntmps9
        go_wp2_with (go_at_call 19; rw [← HW2.out]; refine hsame0.mono ?_; rintro e w3 ⟨rfl, q, hq3⟩)
        clear hsame0
        go_loopw [5] (fun i wr => ∃ k q : Nat, k ≤ 5 ∧ i = .int .i64 k ∧ Hid (wr = W2.drewN q) ∧ Hid ([l0, l1, l2, l3, l4, l5].take (1 + k) = [l0, k1, k2, k3, k4, k5].take (1 + k))) (fun i _ => 5 - (intOf i).toNat)
        case atStart => exact ⟨0, q, Nat.zero_le _, rfl, rfl, rfl⟩
        case round =>
          obtain ⟨k, q, hk, rfl, hwr, HA⟩ := hrel
          have hbr : Below w.heap.size w wr := by rw [hwr.out]; exact Hb2.out.trans ⟨rfl, rfl, rfl, Nat.le_refl _, fun _ _ => rfl⟩
          have HBR := Lib.hid hbr
          clear hbr
          by_cases hlt : k < 5
          · obtain ⟨va, la, vb, lb, e1, e2, sa, sb, e3, e4, ba, bb⟩ := Rows.out k hlt
            have c1 : wr.drew.cell? ⟨w.heap.size, 2 + k, none⟩ = some va := by
              rw [hwr.out]
              show W2.cell? _ = _
              rw [cell_at G1.out (2 + k)]; exact e1
            have c2 : wr.drew.cell? ⟨w.heap.size + 1, 2 + k, none⟩ = some vb := by
              rw [hwr.out]
              show W2.cell? _ = _
              rw [cell_at G2.out (2 + k)]; exact e2
            have hsm := same13_any va vb la lb wr.drew ((sa.later HBR.out).later (Below.refl _ _).drew) ((sb.later HBR.out).later (Below.refl _ _).drew) ba bb
            clear e1 e2 sa sb ba bb
            go_wp2_with fail
            go_still_tail 8, (by kernel_rfl)
            change wpList _ _ _ _ _ wr.drew
            by_cases hab : la = lb
            · have HA2 := Lib.hid (show [l0, l1, l2, l3, l4, l5].take (1 + (k + 1)) = [l0, k1, k2, k3, k4, k5].take (1 + (k + 1)) from by
                rw [show 1 + (k + 1) = (1 + k) + 1 from by omega, take_snoc e3, take_snoc e4, HA.out, hab])
              rw [show sameL la lb = true from decide_eq_true hab] at hsm
              clear hab
              go_wp2_with (go_at_call 19; refine hsm.mono ?_; rintro e w3 ⟨rfl, q2, rfl⟩)
              go_roundw
              case rel => exact ⟨k + 1, q + 1 + q2, by omega, by go_num, Lib.hid (by rw [hwr.out, World.drewN_drewN]; congr 1; omega), HA2⟩
              case measure => simp [intOf]; omega
            · have HN := Lib.hid (show decide ([l0, l1, l2, l3, l4, l5] = [l0, k1, k2, k3, k4, k5]) = false from decide_eq_false fun e => hab (by
                rw [e] at e3
                exact Option.some.inj (e3.symm.trans e4)))
              rw [show sameL la lb = false from decide_eq_false hab] at hsm
              clear hab
              go_wp2_with (go_at_call 19; refine hsm.mono ?_; rintro e w3 ⟨rfl, q2, rfl⟩)
              go_ret
              exact ⟨by rw [HN.out]; rfl, HBR.out.drew.trans ⟨rfl, rfl, rfl, Nat.le_refl _, fun _ _ => rfl⟩⟩
          · obtain rfl : k = 5 := by omega
            have HN := Lib.hid (show decide ([l0, l1, l2, l3, l4, l5] = [l0, k1, k2, k3, k4, k5]) = true from decide_eq_true HA.out)
            go_wp2_with fail
            go_ret
            exact ⟨by rw [HN.out]; rfl, HBR.out⟩
      · rw [show sameL l0 k0 = false from decide_eq_false h0] at hsame0
        rw [decide_eq_false (fun e => h0 (List.cons.inj e).1)]
        have HW2 := Lib.hid hW2
        clear h0 hW2
        go_enter Tryd.func9, Tryd.ntmps9
        go_wp2_with (go_at_call 19; rw [← HW2.out]; refine hsame0.mono ?_; rintro e w3 ⟨rfl, q, rfl⟩)
        go_ret
        exact ⟨rfl, Hb2.out.trans ⟨rfl, rfl, rfl, Nat.le_refl _, fun _ _ => rfl⟩⟩
    · rw [decide_eq_false hr]
      clear hsame0 Rows
      go_enter Tryd.func9, Tryd.ntmps9
      go_wp2_with fail
      rw [← hW2]
      go_ret
      exact ⟨rfl, Hb2.out⟩
  · rw [decide_eq_false hn] at kn ⊢
    clear hn hsame0 Rows
    generalize toB un = ns at *
    generalize toB zn = nz at *
    go_enter Tryd.func9, Tryd.ntmps9
    go_wp2_with fail
    rw [← hW2]
    go_ret
    exact ⟨rfl, Hb2.out⟩
set_option maxHeartbeats 1000000 in
theorem has13_any (v : Value) (ls : List (List UInt8)) (x : List UInt8) (w : World) (h : Sts w v ls) (hl : ls.length ≤ 1000000) : Calls Tryd.prog 14 #[v, .string (toB x)] w fun e w' => e = .returned (.bool (decide (x ∈ ls))) ∧ w = w' := by
  obtain ⟨a, c, rfl, _, _, h3⟩ := h
  have H3 := Lib.hid h3
  clear h3
  go_enter Tryd.func14, Tryd.ntmps14
  go_wp2_with fail
  go_loopw [9] (fun i wr => ∃ k : Nat, k ≤ ls.length ∧ i = .int .i64 k ∧ w = wr ∧ Hid (∀ j (hj : j < ls.length), j < k → ls[j] ≠ x)) (fun i _ => ls.length - (intOf i).toNat)
  case atStart => exact ⟨0, Nat.zero_le _, rfl, rfl, fun j _ h => absurd h (by omega)⟩
  case round =>
    obtain ⟨k, hk, rfl, rfl, HA⟩ := hrel
    by_cases hlt : k < ls.length
    · obtain ⟨b, o, rfl, hb, hc⟩ := H3.out (by omega)
      have c1 := hc k hlt
      have kb := beq_toB ls[k] x
      clear hc
      by_cases he : ls[k] = x
      · have HN := Lib.hid (show decide (x ∈ ls) = true from decide_eq_true (he ▸ List.getElem_mem hlt))
        rw [decide_eq_true he] at kb
        clear he
        generalize ls[k] = l at *
        generalize toB l = lb at *
        generalize toB x = xb at *
        go_wp2_with fail
        go_ret
        exact ⟨by rw [HN.out]; rfl, rfl⟩
      · have HB := Lib.hid (show ∀ j (hj : j < ls.length), j < k + 1 → ls[j] ≠ x from fun j hj hjk => by
          rcases Nat.lt_or_ge j k with h | h
          · exact HA.out j hj h
          · obtain rfl : j = k := by omega
            exact he)
        rw [decide_eq_false he] at kb
        clear he
        generalize ls[k] = l at *
        generalize toB l = lb at *
        generalize toB x = xb at *
        go_wp2_with fail
        go_roundw
        case rel => exact ⟨k + 1, by omega, by go_num, trivial, HB⟩
        case measure => simp [intOf]; omega
    · have HN := Lib.hid (show decide (x ∈ ls) = false from decide_eq_false fun hm => by
        obtain ⟨j, hj, e⟩ := List.getElem_of_mem hm
        exact HA.out j hj (by omega) e)
      go_wp2_with fail
      go_ret
      exact ⟨by rw [HN.out]; rfl, rfl⟩
theorem below_grown (w : World) (k : Nat) (os : Array Obj) : Below w.heap.size w (Go.Sort.grow (w.drewN k) os) :=
  ⟨rfl, rfl, rfl, by show w.heap.size ≤ (w.heap ++ os).size; rw [Array.size_append]; omega, fun j hj => by
    show (w.heap ++ os)[j]? = w.heap[j]?
    rw [Array.getElem?_append_left hj]⟩
theorem tab_later {w w' : World} {name : String} {k : IntKind} {zs : List Int} (h : Lib.TabIs Tryd.prog w name k zs) (hb : Below w.heap.size w w') : Lib.TabIs Tryd.prog w' name k zs := by
  unfold Lib.TabIs World.var? at *
  cases hg : Tryd.prog.globalNamed name with
  | none => rw [hg] at h; cases h
  | some g =>
    simp only [hg, Option.bind_some] at h ⊢
    cases ho : w.heap[g]? with
    | none => rw [ho] at h; cases h
    | some o => rw [hb.block g (lt_of_heap ho), ho]; rw [ho] at h; exact h
theorem digits_len : ∀ n : Nat, n ≤ 999 → (Lib.decDigits n).length ≤ 1000 := by decide +kernel
theorem itoa_len (r : Int) (h0 : -99 ≤ r) (h1 : r ≤ 99) : (Lib.itoa r).length ≤ 1000 := by
  have key : ∀ n : Nat, n ≤ 198 → (Lib.itoa ((n : Int) - 99)).length ≤ 1000 := by decide +kernel
  have := key (r + 99).toNat (by omega)
  rwa [show (((r + 99).toNat : Nat) : Int) - 99 = r by omega] at this
theorem itoa_any (r : Int) (h0 : -99 ≤ r) (h1 : r ≤ 99) (w : World) (htab : Lib.TabIs Tryd.prog w "internal/strconv.uint64pow10" .u64 Lib.pow10Tab) : Calls Tryd.prog 22 #[.int .i64 r] w fun e w' => e = .returned (.string (toB (Lib.itoa r))) ∧ Below w.heap.size w w' :=
  (Tryd.strconv_Itoa r (by omega) (by omega) w htab).mono fun e w' ⟨he, k, os, hw⟩ => ⟨he, by rw [hw]; exact below_grown _ _ _⟩
theorem itoa_dig (r : Nat) (h : r ≤ 3) : Lib.itoa (r : Int) = digU r := by
  match r, h with
  | 0, _ => decide +kernel
  | 1, _ => decide +kernel
  | 2, _ => decide +kernel
  | 3, _ => decide +kernel
end Go.Proofs.YtmnohaefklglfaaDoor
