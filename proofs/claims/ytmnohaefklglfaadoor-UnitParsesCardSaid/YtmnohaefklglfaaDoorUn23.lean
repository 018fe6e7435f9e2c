/- The document's answer for units: has, word; a unit's value whose lists lie in certain blocks; a block that is turned. -/
import Derived.Test.YtmnohaefklglfaaDoorUn20
namespace Go.Proofs.YtmnohaefklglfaaDoor
open Go.RowKit
open Go.ChangeMaps (setBlock)
set_option linter.unusedVariables false
set_option linter.unusedSimpArgs false
set_option maxRecDepth 100000

set_option maxHeartbeats 1000000 in
theorem hasref_any (v : Value) (ls : List (List UInt8)) (x : List UInt8) (w : World) (h : Sts w v ls) (hl : ls.length ≤ 1000000) : Calls Tryd.prog 30 #[v, .string (toB x)] w fun e w' => e = .returned (.bool (decide (x ∈ ls))) ∧ w = w' := by
  obtain ⟨a, c, rfl, _, _, h3⟩ := h
  have H3 := Lib.hid h3
  clear h3
  go_enter Tryd.func30, Tryd.ntmps30
  go_wp2_with fail
  go_loopw [5] (fun i wr => ∃ k : Nat, k ≤ ls.length ∧ i = .int .i64 k ∧ w = wr ∧ Hid (∀ j (hj : j < ls.length), j < k → ls[j] ≠ x)) (fun i _ => ls.length - (intOf i).toNat)
  case atStart => exact ⟨0, Nat.zero_le _, rfl, rfl, fun j _ h => absurd h (by omega)⟩
  case round =>
    obtain ⟨k, hk, rfl, rfl, HA⟩ := hrel
    by_cases hlt : k < ls.length
    · obtain ⟨b, o, rfl, hb, hc⟩ := H3.out (by omega)
      have c1 := hc k hlt
      have kb := beq_toB ls[k] x
      clear hc
      by_cases he : ls[k] = x
      · have HN := Lib.hid (show decide (x ∈ ls) = true from decide_eq_true (he ▸ List.getElem_mem hlt))
        rw [decide_eq_true he] at kb
        clear he
        generalize ls[k] = l at *
        generalize toB l = lb at *
        generalize toB x = xb at *
        go_wp2_with fail
        go_ret
        exact ⟨by rw [HN.out]; rfl, rfl⟩
      · have HB := Lib.hid (show ∀ j (hj : j < ls.length), j < k + 1 → ls[j] ≠ x from fun j hj hjk => by
          rcases Nat.lt_or_ge j k with h | h
          · exact HA.out j hj h
          · obtain rfl : j = k := by omega
            exact he)
        rw [decide_eq_false he] at kb
        clear he
        generalize ls[k] = l at *
        generalize toB l = lb at *
        generalize toB x = xb at *
        go_wp2_with fail
        go_roundw
        case rel => exact ⟨k + 1, by omega, by go_num, trivial, HB⟩
        case measure => simp [intOf]; omega
    · have HN := Lib.hid (show decide (x ∈ ls) = false from decide_eq_false fun hm => by
        obtain ⟨j, hj, e⟩ := List.getElem_of_mem hm
        exact HA.out j hj (by omega) e)
      go_wp2_with fail
      go_ret
      exact ⟨by rw [HN.out]; rfl, rfl⟩

theorem findW_none {x : List UInt8} : ∀ {l : List (List UInt8)}, (∀ y ∈ l, y ≠ x) → findW x l = none := by
  intro l
  induction l with
  | nil => intro _; rfl
  | cons y r ih =>
    intro h
    unfold findW
    rw [if_neg (h y (List.mem_cons_self ..)), ih fun z hz => h z (List.mem_cons_of_mem _ hz)]
    rfl
theorem findW_at {x : List UInt8} : ∀ {l : List (List UInt8)} {k : Nat}, (∀ j, j < k → l[j]? ≠ some x) → l[k]? = some x → findW x l = some k := by
  intro l
  induction l with
  | nil => intro k _ h; simp at h
  | cons y r ih =>
    intro k h1 h2
    cases k with
    | zero =>
      have : y = x := by simpa using h2
      unfold findW
      rw [if_pos this]
    | succ k =>
      have h3 : y ≠ x := fun e => h1 0 (by omega) (by simp [e])
      unfold findW
      rw [if_neg h3, ih (k := k) (fun j hj => by have := h1 (j + 1) (by omega); simpa using this) (by simpa using h2)]
      rfl
def wordN (x : List UInt8) : Int := match findW x (wordsU.drop 1) with
  | none => -1
  | some k => (k : Int)
set_option maxHeartbeats 2000000 in
theorem wordref_any (x : List UInt8) (w : World) : Calls Tryd.prog 31 #[.string (toB x)] w fun e w' => e = .returned (.int .i64 (wordN x)) ∧ Below w.heap.size w w' := by
  have rows : ∀ k, k < 5 → ∃ y, (wordsU.drop 1)[k]? = some y ∧ (#[.string ⟨#[97, 102, 116, 101, 114]⟩, .string ⟨#[98, 101, 102, 111, 114, 101]⟩, .string ⟨#[114, 101, 113, 117, 105, 114, 101, 115]⟩, .string ⟨#[119, 97, 110, 116, 115]⟩, .string ⟨#[112, 97, 114, 116, 111, 102]⟩] : Array Value)[k]? = some (.string (toB y)) := fun k hk => by
    match k, hk with
    | 0, _ => exact ⟨_, rfl, rfl⟩
    | 1, _ => exact ⟨_, rfl, rfl⟩
    | 2, _ => exact ⟨_, rfl, rfl⟩
    | 3, _ => exact ⟨_, rfl, rfl⟩
    | 4, _ => exact ⟨_, rfl, rfl⟩
  obtain ⟨W1, hW1⟩ : ∃ W1, W1 = w.alloc (.cells #[.string ⟨#[97, 102, 116, 101, 114]⟩, .string ⟨#[98, 101, 102, 111, 114, 101]⟩, .string ⟨#[114, 101, 113, 117, 105, 114, 101, 115]⟩, .string ⟨#[119, 97, 110, 116, 115]⟩, .string ⟨#[112, 97, 114, 116, 111, 102]⟩] 9) := ⟨_, rfl⟩
  have HC := Lib.hid (show W1.heap[w.heap.size]? = some (.cells #[.string ⟨#[97, 102, 116, 101, 114]⟩, .string ⟨#[98, 101, 102, 111, 114, 101]⟩, .string ⟨#[114, 101, 113, 117, 105, 114, 101, 115]⟩, .string ⟨#[119, 97, 110, 116, 115]⟩, .string ⟨#[112, 97, 114, 116, 111, 102]⟩] 9) from by rw [hW1]; exact World.alloc_heap_new w _)
  have HB := Lib.hid (show Below w.heap.size w W1 from by rw [hW1]; exact (Below.refl _ _).alloc (Nat.le_refl _) _)
  have Rows := Lib.hid rows
  have HW1 := Lib.hid hW1
  clear rows hW1
  go_enter Tryd.func31, Tryd.ntmps31
  go_wp2_with fail
  rw [← HW1.out]
  go_loopw [4] (fun i wr => ∃ k : Nat, k ≤ 5 ∧ i = .int .i64 k ∧ W1 = wr ∧ Hid (∀ j, j < k → (wordsU.drop 1)[j]? ≠ some x)) (fun i _ => 5 - (intOf i).toNat)
  case atStart => exact ⟨0, Nat.zero_le _, rfl, rfl, fun j h => absurd h (by omega)⟩
  case round =>
    obtain ⟨k, hk, rfl, rfl, HA⟩ := hrel
    by_cases hlt : k < 5
    · obtain ⟨y, e1, e2⟩ := Rows.out k hlt
      have c1 : W1.cell? ⟨w.heap.size, k, none⟩ = some (.string (toB y)) := by rw [cell_at HC.out k]; exact e2
      have kb := beq_toB y x
      have hdec : decide ((k : Int) < 5) = true := decide_eq_true (by omega)
      by_cases he : y = x
      · have HN := Lib.hid (show wordN x = (k : Int) from by unfold wordN; rw [findW_at HA.out (he ▸ e1)])
        rw [decide_eq_true he] at kb
        clear he e1 e2
        generalize toB y = lb at *
        generalize toB x = xb at *
        go_wp2_with fail
        go_ret
        exact ⟨by rw [HN.out]; rfl, HB.out⟩
      · have HA2 := Lib.hid (show ∀ j, j < k + 1 → (wordsU.drop 1)[j]? ≠ some x from fun j hj => by
          rcases Nat.lt_or_ge j k with h | h
          · exact HA.out j h
          · obtain rfl : j = k := by omega
            rw [e1]; exact fun e => he (Option.some.inj e))
        rw [decide_eq_false he] at kb
        clear he e1 e2
        generalize toB y = lb at *
        generalize toB x = xb at *
        go_wp2_with fail
        go_roundw
        case rel => exact ⟨k + 1, by omega, by go_num, trivial, HA2⟩
        case measure => simp [intOf]; omega
    · obtain rfl : k = 5 := by omega
      have HN := Lib.hid (show wordN x = -1 from by
        unfold wordN
        rw [findW_none fun y hy e => by
          obtain ⟨j, hj, e2⟩ := List.mem_iff_getElem.1 hy
          exact HA.out j hj (by rw [List.getElem?_eq_getElem hj, e2, e])])
      go_wp2_with fail
      go_ret
      exact ⟨by rw [HN.out]; rfl, HB.out⟩
theorem wordAt_of {x : List UInt8} (h : x ≠ [102, 105, 108, 101]) : wordAt x = (findW x (wordsU.drop 1)).map (· + 1) := by
  show (if [102, 105, 108, 101] = x then some 0 else (findW x (wordsU.drop 1)).map (· + 1)) = _
  rw [if_neg (fun e => h e.symm)]

/-! ### Values whose lists lie in certain blocks -/
def StsQ (Q : Nat → Prop) (w : World) (v : Value) (ls : List (List UInt8)) : Prop := Sts w v ls ∧ (0 < ls.length → ∃ g o n c, v = .slice (some ⟨g, o, none⟩) n c ∧ Q g) ∧ (v = .slice none 0 0 ∨ ∃ a n c, v = .slice (some a) n c)
theorem StsQ.later {Q : Nat → Prop} {w w' : World} {v : Value} {ls : List (List UInt8)} (h : StsQ Q w v ls) (hb : Below w.heap.size w w') : StsQ Q w' v ls := ⟨h.1.later hb, h.2⟩
theorem StsQ.imp {Q R : Nat → Prop} {w : World} {v : Value} {ls : List (List UInt8)} (h : StsQ Q w v ls) (hq : ∀ g, g < w.heap.size → Q g → R g) : StsQ R w v ls := by
  refine ⟨h.1, fun hn => ?_, h.2.2⟩
  obtain ⟨g, o, n, c, e, hg⟩ := h.2.1 hn
  obtain ⟨a, c', e', _, _, h4⟩ := h.1
  obtain ⟨b, o', e2, hb, _⟩ := h4 hn
  rw [e] at e'
  injection e' with e3 _ _
  rw [e2] at e3
  injection e3 with e3
  injection e3 with e3 _ _
  exact ⟨g, o, n, c, e, hq g (e3 ▸ hb) hg⟩
theorem StsQ.turn {Q : Nat → Prop} {w : World} {v : Value} {ls : List (List UInt8)} (h : StsQ Q w v ls) {b : Nat} (hb : b < w.heap.size) (hq : ¬ Q b) (x : Obj) : StsQ Q (setBlock w b x) v ls := by
  refine ⟨?_, h.2⟩
  obtain ⟨s1, s2, s3⟩ := setBlock_heap w b x hb
  obtain ⟨⟨a, c, h1, h2, h3, h4⟩, h5, _⟩ := h
  refine ⟨a, c, h1, h2, h3, fun hn => ?_⟩
  obtain ⟨g, o, h6, h7, h8⟩ := h4 hn
  obtain ⟨g', o', n', c', e, hg⟩ := h5 hn
  rw [h1] at e
  injection e with e _ _
  rw [h6] at e
  injection e with e
  injection e with e _ _
  subst e
  refine ⟨g, o, h6, by rw [s3]; exact h7, fun j hj => ?_⟩
  rw [← h8 j hj]
  have hne : g ≠ b := fun e => hq (e ▸ hg)
  unfold World.cell?
  rw [s2 g hne]
theorem StsQ.src {Q : Nat → Prop} {w : World} {v : Value} {ls : List (List UInt8)} (h : StsQ Q w v ls) : Src w v ls.length (strs ls) := by
  obtain ⟨⟨a, c, h1, h2, h3, h4⟩, _, h6⟩ := h
  rcases h6 with h6 | ⟨ad, n, c', h6⟩
  · rw [h6] at h1
    injection h1 with _ e2 _
    have e3 : ls = [] := List.length_eq_zero_iff.1 e2.symm
    exact .inl ⟨h6, e2.symm, by rw [e3]; rfl⟩
  · rw [h6] at h1
    injection h1 with e1 e2 e3
    subst e1 e3
    refine .inr ⟨ad, c', by rw [h6, e2], fun j u hj => ?_, fun u hu => ?_⟩
    · have hjl : j < ls.length := by
        have := (List.getElem?_eq_some_iff.1 hj).1
        simpa [strs] using this
      obtain ⟨b, o, e, _, hc⟩ := h4 (by omega)
      injection e with e
      subst e
      rw [Addr.add_mid, hc j hjl]
      rw [strs_at ls j hjl] at hj
      exact hj
    · obtain ⟨y, _, rfl⟩ := List.mem_map.1 hu
      rfl
theorem StsQ.fresh {Q : Nat → Prop} {W0 : Base} {w : World} {v : Value} {ls : List (List UInt8)} {L : List Rw} (h : Own W0 w (rowSs v ls :: L)) (hn : 0 < ls.length) (hq : ∀ g, W0.world.heap.size ≤ g → Q g) : StsQ Q w v ls := by
  obtain ⟨g, c, e, hg, _⟩ := h.form hn
  exact ⟨h.sts, fun _ => ⟨g, 0, _, c, e, hq g hg⟩, .inr ⟨_, _, _, e⟩⟩
theorem StsQ.slice {Q : Nat → Prop} {w : World} {v : Value} {ls : List (List UInt8)} (h : StsQ Q w v ls) : ∃ a c, v = .slice a ls.length c := by
  obtain ⟨a, c, e, _⟩ := h.1
  exact ⟨a, c, e⟩
theorem set8_eq {w : World} {b : Nat} {u0 u1 u2 u3 u4 u5 u6 u7 : Value} {T : TypeId} (h : w.heap[b]? = some (.cells #[u0, u1, u2, u3, u4, u5, u6, u7] T)) (v0 v1 v2 v3 v4 v5 v6 v7 : Value) : (((((((w.setCell ⟨b, 0, none⟩ v0).setCell ⟨b, 1, none⟩ v1).setCell ⟨b, 2, none⟩ v2).setCell ⟨b, 3, none⟩ v3).setCell ⟨b, 4, none⟩ v4).setCell ⟨b, 5, none⟩ v5).setCell ⟨b, 6, none⟩ v6).setCell ⟨b, 7, none⟩ v7 = setBlock w b (.cells #[v0, v1, v2, v3, v4, v5, v6, v7] T) := by
  have step : ∀ (W : World) (c : Array Value) (j : Nat) (v : Value), W.heap[b]? = some (.cells c T) → W.setCell ⟨b, j, none⟩ v = setBlock W b (.cells (c.setIfInBounds j v) T) := fun W c j v hh => set_at hh j v
  have two : ∀ (W : World) (x y : Obj), b < W.heap.size → setBlock (setBlock W b x) b y = setBlock W b y := fun W x y hh => by
    unfold setBlock
    simp
  have at' : ∀ (W : World) (x : Obj), b < W.heap.size → (setBlock W b x).heap[b]? = some x := fun W x hh => (setBlock_heap W b x hh).1
  have hb := lt_of_heap h
  have st : ∀ (c : Array Value) (j : Nat) (v : Value), (setBlock w b (.cells c T)).setCell ⟨b, j, none⟩ v = setBlock w b (.cells (c.setIfInBounds j v) T) := fun c j v => by
    rw [step _ c j v (at' w _ hb), two w _ _ hb]
  rw [step w _ 0 v0 h, st, st, st, st, st, st, st]
  simp
theorem below_turn {B : Nat} {a w : World} (h : Below B a w) {b : Nat} (hb : B ≤ b) (hB : B ≤ w.heap.size) (x : Obj) : Below B a (setBlock w b x) :=
  h.grown (grown_setBlock w b x) hB fun k e => by cases e; exact hb
end Go.Proofs.YtmnohaefklglfaaDoor
