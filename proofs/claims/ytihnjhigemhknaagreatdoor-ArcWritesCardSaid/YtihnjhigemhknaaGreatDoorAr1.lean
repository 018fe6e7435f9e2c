/- What may not be beside a package, units' texts; what is looked for by these closures. -/
import Derived.Test.YtihnjhigemhknaaGreatDoorAr0
import Derived.Deep.LoopGhost
namespace Go.Proofs.YtihnjhigemhknaaGreatDoor
open Go.RowKit
set_option linter.unusedVariables false
set_option linter.unusedSimpArgs false
set_option maxRecDepth 100000

theorem eqS_lists {a b : ByteArray} : (a.toList == b.toList) = decide (a.data.toList = b.data.toList) := by
  rw [Lib.toList_data, Lib.toList_data, Bool.eq_iff_iff]; simp
def confOk (pn s : ByteArray) : Bool := nameL s.data.toList && !decide (s.data.toList = pn.data.toList)
def unitOk (s : ByteArray) : Bool := decide (s.size ≤ 300)
theorem wconf_any (pn s : ByteArray) (b : Nat) (w : World) (hs : s.size ≤ 1000000) (hc : w.cell? ⟨b, 0, none⟩ = some (.string pn)) : Calls Tryz.prog 23 #[.string s, .pointer (some ⟨b, 0, none⟩)] w fun e w' => e = .returned (.bool (!confOk pn s)) ∧ Below w.heap.size w w' := by
  have hN := name_any s w (by unfold maxLen; omega)
  have hE := eqS_lists (a := s) (b := pn)
  have hlt := World.block_lt_of_cell? w _ hc
  have HQ := Lib.hid (show confOk pn s = (nameL s.data.toList && !decide (s.data.toList = pn.data.toList)) from rfl)
  obtain ⟨Q, hQ⟩ : ∃ Q, confOk pn s = Q := ⟨_, rfl⟩
  rw [hQ] at HQ ⊢
  clear hQ
  generalize nameL s.data.toList = a at *
  generalize decide (s.data.toList = pn.data.toList) = q at *
  cases a with
  | false =>
    obtain rfl : Q = false := HQ.out
    go_enter Tryz.func23, Tryz.ntmps23
    go_wp2_with fail
    refine hN.mono ?_
    rintro e w2 ⟨rfl, hb2⟩
    have HB2 := Lib.hid hb2
    clear hb2 hN
    go_wp2_with fail
    go_ret
    exact ⟨rfl, HB2.out⟩
  | true =>
    obtain rfl : Q = !q := HQ.out
    go_enter Tryz.func23, Tryz.ntmps23
    go_wp2_with fail
    refine hN.mono ?_
    rintro e w2 ⟨rfl, hb2⟩
    have HB2 := Lib.hid hb2
    have hc2 : w2.cell? ⟨b, 0, none⟩ = some (.string pn) := by rw [hb2.cell (p := ⟨b, 0, none⟩) hlt]; exact hc
    clear hb2 hN hc
    go_wp2_with fail
    go_ret
    exact ⟨by rw [Bool.not_not]; rfl, HB2.out⟩
theorem wunit_any (s : ByteArray) (w : World) : Calls Tryz.prog 24 #[.string s] w fun e w' => e = .returned (.bool (!unitOk s)) ∧ Below w.heap.size w w' := by
  have HQ := Lib.hid (show (decide ((300 : Int) < (s.size : Int))) = !unitOk s by
    unfold unitOk
    rw [Bool.eq_iff_iff]
    simp only [decide_eq_true_eq, Bool.not_eq_true', decide_eq_false_iff_not]
    omega)
  go_enter Tryz.func24, Tryz.ntmps24
  go_wp2_with fail
  go_ret
  exact ⟨by rw [← HQ.out]; rfl, Below.refl _ _⟩
theorem any_take_succA {α : Type} (f : α → Bool) (ls : List α) (k : Nat) (h : k < ls.length) : (ls.take (k + 1)).any f = ((ls.take k).any f || f ls[k]) := by
  rw [List.take_succ_eq_append_getElem h, List.any_append, List.any_cons, List.any_nil, Bool.or_false]
theorem any_at {α : Type} (f : α → Bool) (ls : List α) (k : Nat) (h : k < ls.length) (hf : f ls[k] = true) : ls.any f = true := List.any_eq_true.2 ⟨ls[k], List.getElem_mem _, hf⟩

set_option maxHeartbeats 2000000 in
theorem need_idx (a : Option Addr) (c : Nat) (xs : List NeedD) (p : NeedD → Bool) (w : World) (hS : SlcA w a 3 (xs.map fun x => x.cells)) (hn : xs.length ≤ 1000000)
    (hp : ∀ x ∈ xs, ∀ w', Below w.heap.size w w' → Calls Tryz.prog 21 #[.agg #[.string x.name, .int .i64 x.way, .string x.ver]] w' fun e w'' => e = .returned (.bool (p x)) ∧ Below w'.heap.size w' w'') :
    Calls Tryz.prog 47 #[.slice a xs.length c, .func (.func 21) #[] #[]] w fun e w' => (∃ i : Int, e = .returned (.int .i64 i) ∧ decide (0 ≤ i) = xs.any p) ∧ Below w.heap.size w w' := by
  have Hst := Lib.hid (show ∃ k : Nat, (Value.int .i64 0) = .int .i64 k ∧ k ≤ xs.length ∧ (xs.take k).any p = false ∧ Below w.heap.size w w from ⟨0, rfl, Nat.zero_le _, rfl, Below.refl _ _⟩)
  have HS := Lib.hid hS
  clear hS
  go_enter Tryz.func47, Tryz.ntmps47
  go_wp2_with fail
  go_loopw [8] (fun i wr => ∃ k : Nat, i = .int .i64 k ∧ k ≤ xs.length ∧ (xs.take k).any p = false ∧ Below w.heap.size w wr) (fun i _ => xs.length - (intOf i).toNat)
  case atStart => exact Hst.out
  case round =>
    obtain ⟨k, rfl, hk, hany, hb⟩ := hrel
    clear Hst
    have Hany := Lib.hid hany
    have HB := Lib.hid hb
    clear hany hb
    by_cases hlt : k < xs.length
    · obtain ⟨g, o, rfl, hr⟩ := HS.out.later HB.out k (by rw [List.length_map]; exact hlt)
      rw [List.getElem_map] at hr
      have r0 := hr 0 _ rfl
      have r1 := hr 1 _ rfl
      have r2 := hr 2 _ rfl
      rw [Nat.add_zero] at r0
      have hcall := hp _ (List.getElem_mem hlt) wr HB.out
      have HT := Lib.hid (any_take_succA p xs k hlt)
      clear hr hp
      rcases Bool.eq_false_or_eq_true (p xs[k]) with hq | hq
      · rw [hq] at hcall
        have HA := Lib.hid (any_at p xs k hlt hq)
        clear hq HT
        generalize xs[k] = x at *
        go_wp2_with fail
        refine hcall.mono ?_
        rintro e w2 ⟨rfl, hb2⟩
        have HB2 := Lib.hid (HB.out.trans (hb2.mono HB.out.size))
        clear hb2 hcall
        go_wp2_with fail
        go_ret
        exact ⟨⟨k, rfl, by rw [HA.out]; exact decide_eq_true (by omega)⟩, HB2.out⟩
      · rw [hq] at hcall
        have HT2 := Lib.hid (show (xs.take (k + 1)).any p = false by rw [HT.out, Hany.out, hq]; rfl)
        clear hq HT
        generalize xs[k] = x at *
        go_wp2_with fail
        refine hcall.mono ?_
        rintro e w2 ⟨rfl, hb2⟩
        have HB2 := Lib.hid (HB.out.trans (hb2.mono HB.out.size))
        clear hb2 hcall
        go_wp2_with fail
        go_roundw
        case rel => exact ⟨k + 1, by go_num, hlt, HT2.out, HB2.out⟩
        case measure => simp [intOf]; omega
    · obtain rfl : k = xs.length := by omega
      clear hp
      go_wp2_with fail
      go_ret
      refine ⟨⟨-1, rfl, ?_⟩, HB.out⟩
      have := Hany.out
      rw [List.take_length] at this
      rw [this]; rfl
theorem need_has (a : Option Addr) (c : Nat) (xs : List NeedD) (p : NeedD → Bool) (w : World) (hS : SlcA w a 3 (xs.map fun x => x.cells)) (hn : xs.length ≤ 1000000)
    (hp : ∀ x ∈ xs, ∀ w', Below w.heap.size w w' → Calls Tryz.prog 21 #[.agg #[.string x.name, .int .i64 x.way, .string x.ver]] w' fun e w'' => e = .returned (.bool (p x)) ∧ Below w'.heap.size w' w'') :
    Calls Tryz.prog 25 #[.slice a xs.length c, .func (.func 21) #[] #[]] w fun e w' => e = .returned (.bool (xs.any p)) ∧ Below w.heap.size w w' := by
  have h := need_idx a c xs p w hS hn hp
  clear hp hS
  generalize xs.any p = q at *
  go_enter Tryz.func25, Tryz.ntmps25
  go_wp2_with fail
  refine h.mono ?_
  rintro e w2 ⟨⟨i, rfl, hi⟩, hb2⟩
  have Hi := Lib.hid hi
  clear h hi
  go_wp2_with fail
  go_ret
  exact ⟨by rw [← Hi.out]; rfl, hb2⟩

set_option maxHeartbeats 2000000 in
theorem conf_idx (b : Nat) (a : Option Addr) (c : Nat) (xs : List ByteArray) (p : ByteArray → Bool) (w : World) (hS : SlcA w a 1 (xs.map fun x => [Value.string x])) (hn : xs.length ≤ 1000000)
    (hp : ∀ x ∈ xs, ∀ w', Below w.heap.size w w' → Calls Tryz.prog 23 #[.string x, .pointer (some ⟨b, 0, none⟩)] w' fun e w'' => e = .returned (.bool (p x)) ∧ Below w'.heap.size w' w'') :
    Calls Tryz.prog 48 #[.slice a xs.length c, .func (.func 23) #[] #[.pointer (some ⟨b, 0, none⟩)]] w fun e w' => (∃ i : Int, e = .returned (.int .i64 i) ∧ decide (0 ≤ i) = xs.any p) ∧ Below w.heap.size w w' := by
  have Hst := Lib.hid (show ∃ k : Nat, (Value.int .i64 0) = .int .i64 k ∧ k ≤ xs.length ∧ (xs.take k).any p = false ∧ Below w.heap.size w w from ⟨0, rfl, Nat.zero_le _, rfl, Below.refl _ _⟩)
  have HS := Lib.hid hS
  clear hS
  go_enter Tryz.func48, Tryz.ntmps48
  go_wp2_with fail
  go_loopw [8] (fun i wr => ∃ k : Nat, i = .int .i64 k ∧ k ≤ xs.length ∧ (xs.take k).any p = false ∧ Below w.heap.size w wr) (fun i _ => xs.length - (intOf i).toNat)
  case atStart => exact Hst.out
  case round =>
    obtain ⟨k, rfl, hk, hany, hb⟩ := hrel
    clear Hst
    have Hany := Lib.hid hany
    have HB := Lib.hid hb
    clear hany hb
    by_cases hlt : k < xs.length
    · obtain ⟨g, o, rfl, hr⟩ := HS.out.later HB.out k (by rw [List.length_map]; exact hlt)
      rw [List.getElem_map] at hr
      rw [Nat.mul_one] at hr
      have r0 := hr 0 _ rfl
      rw [Nat.add_zero] at r0
      have hcall := hp _ (List.getElem_mem hlt) wr HB.out
      have HT := Lib.hid (any_take_succA p xs k hlt)
      clear hr hp
      rcases Bool.eq_false_or_eq_true (p xs[k]) with hq | hq
      · rw [hq] at hcall
        have HA := Lib.hid (any_at p xs k hlt hq)
        clear hq HT
        generalize xs[k] = x at *
        go_wp2_with fail
        refine hcall.mono ?_
        rintro e w2 ⟨rfl, hb2⟩
        have HB2 := Lib.hid (HB.out.trans (hb2.mono HB.out.size))
        clear hb2 hcall
        go_wp2_with fail
        go_ret
        exact ⟨⟨k, rfl, by rw [HA.out]; exact decide_eq_true (by omega)⟩, HB2.out⟩
      · rw [hq] at hcall
        have HT2 := Lib.hid (show (xs.take (k + 1)).any p = false by rw [HT.out, Hany.out, hq]; rfl)
        clear hq HT
        generalize xs[k] = x at *
        go_wp2_with fail
        refine hcall.mono ?_
        rintro e w2 ⟨rfl, hb2⟩
        have HB2 := Lib.hid (HB.out.trans (hb2.mono HB.out.size))
        clear hb2 hcall
        go_wp2_with fail
        go_roundw
        case rel => exact ⟨k + 1, by go_num, hlt, HT2.out, HB2.out⟩
        case measure => simp [intOf]; omega
    · obtain rfl : k = xs.length := by omega
      clear hp
      go_wp2_with fail
      go_ret
      refine ⟨⟨-1, rfl, ?_⟩, HB.out⟩
      have := Hany.out
      rw [List.take_length] at this
      rw [this]; rfl
theorem conf_has (b : Nat) (a : Option Addr) (c : Nat) (xs : List ByteArray) (p : ByteArray → Bool) (w : World) (hS : SlcA w a 1 (xs.map fun x => [Value.string x])) (hn : xs.length ≤ 1000000)
    (hp : ∀ x ∈ xs, ∀ w', Below w.heap.size w w' → Calls Tryz.prog 23 #[.string x, .pointer (some ⟨b, 0, none⟩)] w' fun e w'' => e = .returned (.bool (p x)) ∧ Below w'.heap.size w' w'') :
    Calls Tryz.prog 26 #[.slice a xs.length c, .func (.func 23) #[] #[.pointer (some ⟨b, 0, none⟩)]] w fun e w' => e = .returned (.bool (xs.any p)) ∧ Below w.heap.size w w' := by
  have h := conf_idx b a c xs p w hS hn hp
  clear hp hS
  generalize xs.any p = q at *
  go_enter Tryz.func26, Tryz.ntmps26
  go_wp2_with fail
  refine h.mono ?_
  rintro e w2 ⟨⟨i, rfl, hi⟩, hb2⟩
  have Hi := Lib.hid hi
  clear h hi
  go_wp2_with fail
  go_ret
  exact ⟨by rw [← Hi.out]; rfl, hb2⟩

set_option maxHeartbeats 2000000 in
theorem unit_idx (a : Option Addr) (c : Nat) (xs : List ByteArray) (p : ByteArray → Bool) (w : World) (hS : SlcA w a 1 (xs.map fun x => [Value.string x])) (hn : xs.length ≤ 1000000)
    (hp : ∀ x ∈ xs, ∀ w', Below w.heap.size w w' → Calls Tryz.prog 24 #[.string x] w' fun e w'' => e = .returned (.bool (p x)) ∧ Below w'.heap.size w' w'') :
    Calls Tryz.prog 48 #[.slice a xs.length c, .func (.func 24) #[] #[]] w fun e w' => (∃ i : Int, e = .returned (.int .i64 i) ∧ decide (0 ≤ i) = xs.any p) ∧ Below w.heap.size w w' := by
  have Hst := Lib.hid (show ∃ k : Nat, (Value.int .i64 0) = .int .i64 k ∧ k ≤ xs.length ∧ (xs.take k).any p = false ∧ Below w.heap.size w w from ⟨0, rfl, Nat.zero_le _, rfl, Below.refl _ _⟩)
  have HS := Lib.hid hS
  clear hS
  go_enter Tryz.func48, Tryz.ntmps48
  go_wp2_with fail
  go_loopw [8] (fun i wr => ∃ k : Nat, i = .int .i64 k ∧ k ≤ xs.length ∧ (xs.take k).any p = false ∧ Below w.heap.size w wr) (fun i _ => xs.length - (intOf i).toNat)
  case atStart => exact Hst.out
  case round =>
    obtain ⟨k, rfl, hk, hany, hb⟩ := hrel
    clear Hst
    have Hany := Lib.hid hany
    have HB := Lib.hid hb
    clear hany hb
    by_cases hlt : k < xs.length
    · obtain ⟨g, o, rfl, hr⟩ := HS.out.later HB.out k (by rw [List.length_map]; exact hlt)
      rw [List.getElem_map] at hr
      rw [Nat.mul_one] at hr
      have r0 := hr 0 _ rfl
      rw [Nat.add_zero] at r0
      have hcall := hp _ (List.getElem_mem hlt) wr HB.out
      have HT := Lib.hid (any_take_succA p xs k hlt)
      clear hr hp
      rcases Bool.eq_false_or_eq_true (p xs[k]) with hq | hq
      · rw [hq] at hcall
        have HA := Lib.hid (any_at p xs k hlt hq)
        clear hq HT
        generalize xs[k] = x at *
        go_wp2_with fail
        refine hcall.mono ?_
        rintro e w2 ⟨rfl, hb2⟩
        have HB2 := Lib.hid (HB.out.trans (hb2.mono HB.out.size))
        clear hb2 hcall
        go_wp2_with fail
        go_ret
        exact ⟨⟨k, rfl, by rw [HA.out]; exact decide_eq_true (by omega)⟩, HB2.out⟩
      · rw [hq] at hcall
        have HT2 := Lib.hid (show (xs.take (k + 1)).any p = false by rw [HT.out, Hany.out, hq]; rfl)
        clear hq HT
        generalize xs[k] = x at *
        go_wp2_with fail
        refine hcall.mono ?_
        rintro e w2 ⟨rfl, hb2⟩
        have HB2 := Lib.hid (HB.out.trans (hb2.mono HB.out.size))
        clear hb2 hcall
        go_wp2_with fail
        go_roundw
        case rel => exact ⟨k + 1, by go_num, hlt, HT2.out, HB2.out⟩
        case measure => simp [intOf]; omega
    · obtain rfl : k = xs.length := by omega
      clear hp
      go_wp2_with fail
      go_ret
      refine ⟨⟨-1, rfl, ?_⟩, HB.out⟩
      have := Hany.out
      rw [List.take_length] at this
      rw [this]; rfl
theorem unit_has (a : Option Addr) (c : Nat) (xs : List ByteArray) (p : ByteArray → Bool) (w : World) (hS : SlcA w a 1 (xs.map fun x => [Value.string x])) (hn : xs.length ≤ 1000000)
    (hp : ∀ x ∈ xs, ∀ w', Below w.heap.size w w' → Calls Tryz.prog 24 #[.string x] w' fun e w'' => e = .returned (.bool (p x)) ∧ Below w'.heap.size w' w'') :
    Calls Tryz.prog 26 #[.slice a xs.length c, .func (.func 24) #[] #[]] w fun e w' => e = .returned (.bool (xs.any p)) ∧ Below w.heap.size w w' := by
  have h := unit_idx a c xs p w hS hn hp
  clear hp hS
  generalize xs.any p = q at *
  go_enter Tryz.func26, Tryz.ntmps26
  go_wp2_with fail
  refine h.mono ?_
  rintro e w2 ⟨⟨i, rfl, hi⟩, hb2⟩
  have Hi := Lib.hid hi
  clear h hi
  go_wp2_with fail
  go_ret
  exact ⟨by rw [← Hi.out]; rfl, hb2⟩
end Go.Proofs.YtihnjhigemhknaaGreatDoor
