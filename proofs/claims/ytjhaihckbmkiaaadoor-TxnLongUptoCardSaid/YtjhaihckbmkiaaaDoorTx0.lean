/- An upgrade as plain data, and how it lies in memory; what may be none of its moves and names. -/
import Derived.Test.YtjhaihckbmkiaaaDoorSl0
import Derived.Test.YtjhaihckbmkiaaaDoorPJoin
import Derived.Deep.LoopGhost
namespace Go.Proofs.YtjhaihckbmkiaaaDoor
open Go.RowKit
set_option linter.unusedVariables false
set_option linter.unusedSimpArgs false
set_option maxRecDepth 100000

structure MvD where
  kind : Int
  path : ByteArray
def MvD.cells (m : MvD) : List Value := [.int .i64 m.kind, .string m.path]
structure TxD where
  phase : Int
  done : Int
  moves : List MvD
  come : List ByteArray
  gone : List ByteArray
structure TxP where
  am : Option Addr
  cm : Nat
  ac : Option Addr
  cc : Nat
  ag : Option Addr
  cg : Nat
abbrev txCells (D : TxD) (P : TxP) : List Value := [.int .i64 D.phase, .int .i64 D.done, .slice P.am D.moves.length P.cm, .slice P.ac D.come.length P.cc, .slice P.ag D.gone.length P.cg]
/-- An upgrade that lies in memory. -/
structure TxAt (w : World) (D : TxD) (P : TxP) : Prop where
  moves : SlcA w P.am 2 (D.moves.map fun x => x.cells)
  come : SlcA w P.ac 1 (D.come.map fun x => [Value.string x])
  gone : SlcA w P.ag 1 (D.gone.map fun x => [Value.string x])
theorem TxAt.later {w w' : World} {D : TxD} {P : TxP} (h : TxAt w D P) (hb : Below w.heap.size w w') : TxAt w' D P :=
  ⟨h.moves.later hb, h.come.later hb, h.gone.later hb⟩
/-- None of its parts is too great. -/
structure TxFits (D : TxD) : Prop where
  moves : D.moves.length ≤ 1000000
  move : ∀ m ∈ D.moves, m.path.size ≤ 2000000
  come : D.come.length ≤ 1000000
  comes : ∀ s ∈ D.come, s.size ≤ 2000000
  gone : D.gone.length ≤ 1000000
  gones : ∀ s ∈ D.gone, s.size ≤ 2000000
def mvOk (m : MvD) : Bool := !decide (m.kind < 0) && !decide (2 < m.kind) && decide (namesL m.path.data.toList ≠ [])
def nmOk (s : ByteArray) : Bool := nameL s.data.toList
def txFew (D : TxD) : Bool := (!decide (D.phase < 0) && !decide (4 < D.phase) && !decide (D.done < 0) && !decide ((D.moves.length : Int) < D.done)) && (!decide (40 < D.moves.length) && !decide (24 < D.come.length + D.gone.length))
def txOk (D : TxD) : Bool := txFew D && (!(D.moves.any fun m => !mvOk m) && !(D.come.any fun s => !nmOk s) && !(D.gone.any fun s => !nmOk s))
theorem Own.box2 {W0 : Base} {w : World} {L : List Rw} (h : Own W0 w L) (x y : Value) (T : TypeId) : Own W0 (w.alloc (.cells #[x, y] T)) (⟨T, 2, .slice (some ⟨w.heap.size, 0, none⟩) 1 1, 1, [x, y]⟩ :: L) :=
  h.made T 2 #[x, y] 1 rfl (by unfold maxLen; decide)
set_option maxHeartbeats 2000000 in
theorem wmove_any (m : MvD) (w : World) (hs : m.path.size ≤ 2000000) (hm : Mx w) : Calls Tryd.prog 25 #[.agg #[.int .i64 m.kind, .string m.path]] w fun e w' => e = .returned (.bool (!mvOk m)) ∧ Below w.heap.size w w' := by
  have hR := fun w1 (h : Mx w1) => right_any m.path w1 (by unfold maxLen; omega) h
  have HB0 := Lib.hid (show Below w.heap.size w (w.alloc (Obj.cells #[Value.int .i64 m.kind, .string m.path] 36)) from (Below.refl _ w).alloc (Nat.le_refl _) _)
  have Hm := Lib.hid (hm.later HB0.out)
  have HQ := Lib.hid (show mvOk m = (!decide (m.kind < 0) && !decide (2 < m.kind) && decide (namesL m.path.data.toList ≠ [])) from rfl)
  obtain ⟨Q, hQ⟩ : ∃ Q, mvOk m = Q := ⟨_, rfl⟩
  rw [hQ] at HQ ⊢
  clear hQ hm
  obtain ⟨q, hq⟩ : ∃ q, decide (namesL m.path.data.toList ≠ []) = q := ⟨_, rfl⟩
  rw [hq] at HQ
  simp only [hq] at hR
  clear hq
  obtain ⟨κ, p⟩ := m
  dsimp only at *
  by_cases h0 : κ < 0
  · obtain rfl : Q = false := by rw [HQ.out, decide_eq_true h0]; rfl
    clear HQ hR
    go_enter Tryd.func25, Tryd.ntmps25
    go_wp2_with fail
    go_ret
    exact ⟨rfl, HB0.out⟩
  · by_cases h1 : 2 < κ
    · obtain rfl : Q = false := by rw [HQ.out, decide_eq_true h1, Bool.not_true, Bool.and_false, Bool.false_and]
      clear HQ hR
      go_enter Tryd.func25, Tryd.ntmps25
      go_wp2_with fail
      go_ret
      exact ⟨rfl, HB0.out⟩
    · obtain rfl : Q = q := by rw [HQ.out, decide_eq_false h0, decide_eq_false h1]; rfl
      clear HQ
      go_enter Tryd.func25, Tryd.ntmps25
      go_wp2_with fail
      refine (hR _ Hm.out).mono ?_
      rintro e w2 ⟨rfl, hb2⟩
      have HB2 := Lib.hid (HB0.out.trans (hb2.mono HB0.out.size))
      clear hb2 hR
      go_wp2_with fail
      go_ret
      exact ⟨rfl, HB2.out⟩
theorem wname_any (s : ByteArray) (w : World) (hs : s.size ≤ 2000000) : Calls Tryd.prog 27 #[.string s] w fun e w' => e = .returned (.bool (!nmOk s)) ∧ Below w.heap.size w w' := by
  have hN := name_any s w (by unfold maxLen; omega)
  unfold nmOk
  generalize nameL s.data.toList = q at *
  go_enter Tryd.func27, Tryd.ntmps27
  go_wp2_with fail
  refine hN.mono ?_
  rintro e w2 ⟨rfl, hb2⟩
  have HB2 := Lib.hid hb2
  clear hb2 hN
  go_wp2_with fail
  go_ret
  exact ⟨rfl, HB2.out⟩
set_option maxHeartbeats 2000000 in
theorem mv_idx (a : Option Addr) (c : Nat) (xs : List MvD) (p : MvD → Bool) (w : World) (hS : SlcA w a 2 (xs.map fun x => x.cells)) (hn : xs.length ≤ 1000000)
    (hp : ∀ x ∈ xs, ∀ w', Below w.heap.size w w' → Calls Tryd.prog 25 #[.agg #[.int .i64 x.kind, .string x.path]] w' fun e w'' => e = .returned (.bool (p x)) ∧ Below w'.heap.size w' w'') :
    Calls Tryd.prog 38 #[.slice a xs.length c, .func (.func 25) #[] #[]] w fun e w' => (∃ i : Int, e = .returned (.int .i64 i) ∧ decide (0 ≤ i) = xs.any p) ∧ Below w.heap.size w w' := by
  have Hst := Lib.hid (show ∃ k : Nat, (Value.int .i64 0) = .int .i64 k ∧ k ≤ xs.length ∧ (xs.take k).any p = false ∧ Below w.heap.size w w from ⟨0, rfl, Nat.zero_le _, rfl, Below.refl _ _⟩)
  have HS := Lib.hid hS
  clear hS
  go_enter Tryd.func38, Tryd.ntmps38
  go_wp2_with fail
  go_loopw [8] (fun i wr => ∃ k : Nat, i = .int .i64 k ∧ k ≤ xs.length ∧ (xs.take k).any p = false ∧ Below w.heap.size w wr) (fun i _ => xs.length - (intOf i).toNat)
  case atStart => exact Hst.out
  case round =>
    obtain ⟨k, rfl, hk, hany, hb⟩ := hrel
    clear Hst
    have Hany := Lib.hid hany
    have HB := Lib.hid hb
    clear hany hb
    by_cases hlt : k < xs.length
    · obtain ⟨g, o, rfl, hr⟩ := HS.out.later HB.out k (by rw [List.length_map]; exact hlt)
      rw [List.getElem_map] at hr
      have r0 := hr 0 _ rfl
      have r1 := hr 1 _ rfl
      rw [Nat.add_zero] at r0
      have hcall := hp _ (List.getElem_mem hlt) wr HB.out
      have HT := Lib.hid (any_take_succA p xs k hlt)
      clear hr hp
      rcases Bool.eq_false_or_eq_true (p xs[k]) with hq | hq
      · rw [hq] at hcall
        have HA := Lib.hid (any_at p xs k hlt hq)
        clear hq HT
        generalize xs[k] = x at *
        go_wp2_with fail
        refine hcall.mono ?_
        rintro e w2 ⟨rfl, hb2⟩
        have HB2 := Lib.hid (HB.out.trans (hb2.mono HB.out.size))
        clear hb2 hcall
        go_wp2_with fail
        go_ret
        exact ⟨⟨k, rfl, by rw [HA.out]; exact decide_eq_true (by omega)⟩, HB2.out⟩
      · rw [hq] at hcall
        have HT2 := Lib.hid (show (xs.take (k + 1)).any p = false by rw [HT.out, Hany.out, hq]; rfl)
        clear hq HT
        generalize xs[k] = x at *
        go_wp2_with fail
        refine hcall.mono ?_
        rintro e w2 ⟨rfl, hb2⟩
        have HB2 := Lib.hid (HB.out.trans (hb2.mono HB.out.size))
        clear hb2 hcall
        go_wp2_with fail
        go_roundw
        case rel => exact ⟨k + 1, by go_num, hlt, HT2.out, HB2.out⟩
        case measure => simp [intOf]; omega
    · obtain rfl : k = xs.length := by omega
      clear hp
      go_wp2_with fail
      go_ret
      refine ⟨⟨-1, rfl, ?_⟩, HB.out⟩
      have := Hany.out
      rw [List.take_length] at this
      rw [this]; rfl
theorem mv_has (a : Option Addr) (c : Nat) (xs : List MvD) (p : MvD → Bool) (w : World) (hS : SlcA w a 2 (xs.map fun x => x.cells)) (hn : xs.length ≤ 1000000)
    (hp : ∀ x ∈ xs, ∀ w', Below w.heap.size w w' → Calls Tryd.prog 25 #[.agg #[.int .i64 x.kind, .string x.path]] w' fun e w'' => e = .returned (.bool (p x)) ∧ Below w'.heap.size w' w'') :
    Calls Tryd.prog 29 #[.slice a xs.length c, .func (.func 25) #[] #[]] w fun e w' => e = .returned (.bool (xs.any p)) ∧ Below w.heap.size w w' := by
  have h := mv_idx a c xs p w hS hn hp
  clear hp hS
  generalize xs.any p = q at *
  go_enter Tryd.func29, Tryd.ntmps29
  go_wp2_with fail
  refine h.mono ?_
  rintro e w2 ⟨⟨i, rfl, hi⟩, hb2⟩
  have Hi := Lib.hid hi
  clear h hi
  go_wp2_with fail
  go_ret
  exact ⟨by rw [← Hi.out]; rfl, hb2⟩

set_option maxHeartbeats 2000000 in
theorem nm_idx (a : Option Addr) (c : Nat) (xs : List ByteArray) (p : ByteArray → Bool) (w : World) (hS : SlcA w a 1 (xs.map fun x => [Value.string x])) (hn : xs.length ≤ 1000000)
    (hp : ∀ x ∈ xs, ∀ w', Below w.heap.size w w' → Calls Tryd.prog 27 #[.string x] w' fun e w'' => e = .returned (.bool (p x)) ∧ Below w'.heap.size w' w'') :
    Calls Tryd.prog 39 #[.slice a xs.length c, .func (.func 27) #[] #[]] w fun e w' => (∃ i : Int, e = .returned (.int .i64 i) ∧ decide (0 ≤ i) = xs.any p) ∧ Below w.heap.size w w' := by
  have Hst := Lib.hid (show ∃ k : Nat, (Value.int .i64 0) = .int .i64 k ∧ k ≤ xs.length ∧ (xs.take k).any p = false ∧ Below w.heap.size w w from ⟨0, rfl, Nat.zero_le _, rfl, Below.refl _ _⟩)
  have HS := Lib.hid hS
  clear hS
  go_enter Tryd.func39, Tryd.ntmps39
  go_wp2_with fail
  go_loopw [8] (fun i wr => ∃ k : Nat, i = .int .i64 k ∧ k ≤ xs.length ∧ (xs.take k).any p = false ∧ Below w.heap.size w wr) (fun i _ => xs.length - (intOf i).toNat)
  case atStart => exact Hst.out
  case round =>
    obtain ⟨k, rfl, hk, hany, hb⟩ := hrel
    clear Hst
    have Hany := Lib.hid hany
    have HB := Lib.hid hb
    clear hany hb
    by_cases hlt : k < xs.length
    · obtain ⟨g, o, rfl, hr⟩ := HS.out.later HB.out k (by rw [List.length_map]; exact hlt)
      rw [List.getElem_map] at hr
      rw [Nat.mul_one] at hr
      have r0 := hr 0 _ rfl
      rw [Nat.add_zero] at r0
      have hcall := hp _ (List.getElem_mem hlt) wr HB.out
      have HT := Lib.hid (any_take_succA p xs k hlt)
      clear hr hp
      rcases Bool.eq_false_or_eq_true (p xs[k]) with hq | hq
      · rw [hq] at hcall
        have HA := Lib.hid (any_at p xs k hlt hq)
        clear hq HT
        generalize xs[k] = x at *
        go_wp2_with fail
        refine hcall.mono ?_
        rintro e w2 ⟨rfl, hb2⟩
        have HB2 := Lib.hid (HB.out.trans (hb2.mono HB.out.size))
        clear hb2 hcall
        go_wp2_with fail
        go_ret
        exact ⟨⟨k, rfl, by rw [HA.out]; exact decide_eq_true (by omega)⟩, HB2.out⟩
      · rw [hq] at hcall
        have HT2 := Lib.hid (show (xs.take (k + 1)).any p = false by rw [HT.out, Hany.out, hq]; rfl)
        clear hq HT
        generalize xs[k] = x at *
        go_wp2_with fail
        refine hcall.mono ?_
        rintro e w2 ⟨rfl, hb2⟩
        have HB2 := Lib.hid (HB.out.trans (hb2.mono HB.out.size))
        clear hb2 hcall
        go_wp2_with fail
        go_roundw
        case rel => exact ⟨k + 1, by go_num, hlt, HT2.out, HB2.out⟩
        case measure => simp [intOf]; omega
    · obtain rfl : k = xs.length := by omega
      clear hp
      go_wp2_with fail
      go_ret
      refine ⟨⟨-1, rfl, ?_⟩, HB.out⟩
      have := Hany.out
      rw [List.take_length] at this
      rw [this]; rfl
theorem nm_has (a : Option Addr) (c : Nat) (xs : List ByteArray) (p : ByteArray → Bool) (w : World) (hS : SlcA w a 1 (xs.map fun x => [Value.string x])) (hn : xs.length ≤ 1000000)
    (hp : ∀ x ∈ xs, ∀ w', Below w.heap.size w w' → Calls Tryd.prog 27 #[.string x] w' fun e w'' => e = .returned (.bool (p x)) ∧ Below w'.heap.size w' w'') :
    Calls Tryd.prog 30 #[.slice a xs.length c, .func (.func 27) #[] #[]] w fun e w' => e = .returned (.bool (xs.any p)) ∧ Below w.heap.size w w' := by
  have h := nm_idx a c xs p w hS hn hp
  clear hp hS
  generalize xs.any p = q at *
  go_enter Tryd.func30, Tryd.ntmps30
  go_wp2_with fail
  refine h.mono ?_
  rintro e w2 ⟨⟨i, rfl, hi⟩, hb2⟩
  have Hi := Lib.hid hi
  clear h hi
  go_wp2_with fail
  go_ret
  exact ⟨by rw [← Hi.out]; rfl, hb2⟩
end Go.Proofs.YtjhaihckbmkiaaaDoor
