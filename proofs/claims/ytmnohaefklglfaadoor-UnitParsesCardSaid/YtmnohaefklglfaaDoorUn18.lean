/- What a text says that was made of a right unit; what a unit is that was parsed. Of no program. -/
import Derived.Test.YtmnohaefklglfaaDoorUn16
namespace Go.Proofs.YtmnohaefklglfaaDoor
open Go.RowKit
set_option linter.unusedVariables false
set_option linter.unusedSimpArgs false

/-- What a unit may be. -/
structure GoodU (name : List UInt8) (ls : List (List (List UInt8))) (r : Int) : Prop where
  name : nameL name = true
  low : 0 ≤ r
  high : r ≤ 3
  files : ls.getD 0 [] ≠ []
  each : ∀ k, k < 6 → (∀ x ∈ ls.getD k [], rightU k x = true) ∧ (ls.getD k []).Nodup ∧ (ls.getD k []).length ≤ 8
theorem parse_good (s : List UInt8) (h : (parseU s).1 = 0) : GoodU (parseU s).2.2.name (parseU s).2.2.ls (retU (parseU s).2.2) := by
  have hk := UOk.parse s
  have hne : (parseU s).2.2.name ≠ [] ∧ listU (parseU s).2.2 0 ≠ [] := by
    revert h
    unfold parseU endU
    split
    · rename_i h1; intro h; exact absurd h h1
    · split
      · intro h; cases h
      · rename_i h2; intro _; exact ⟨fun e => h2 (.inl e), fun e => h2 (.inr e)⟩
  refine ⟨hk.name.resolve_left hne.1, by unfold retU; omega, by have := hk.retry; unfold retU; omega, hne.2, hk.each⟩

theorem name_no10 {l : List UInt8} (h : nameL l = true) : (10 : UInt8) ∉ l := by
  unfold nameL at h
  simp only [Bool.and_eq_true, List.all_eq_true] at h
  intro hm
  have := h.2 10 hm
  rw [show letB 10 = false by decide] at this; cases this
theorem in_parts {c : UInt8} : ∀ {l : List UInt8}, c ∈ l → c = 47 ∨ ∃ p ∈ partsL l, c ∈ p := by
  intro l
  induction l with
  | nil => intro h; cases h
  | cons d l ih =>
    intro h
    unfold partsL
    rcases List.mem_cons.1 h with rfl | h
    · by_cases hc : c = 47
      · exact .inl hc
      · right
        rw [if_neg hc]
        have hne := partsL_ne l
        generalize partsL l = r at *
        cases r with
        | nil => exact absurd rfl hne
        | cons q r => exact ⟨_, List.mem_cons_self .., List.mem_cons_self ..⟩
    · rcases ih h with e | ⟨p, hp, hcp⟩
      · exact .inl e
      · right
        split
        · exact ⟨p, List.mem_cons_of_mem _ hp, hcp⟩
        · generalize partsL l = r at *
          cases r with
          | nil => cases hp
          | cons q r =>
            rcases List.mem_cons.1 hp with rfl | hp
            · exact ⟨_, List.mem_cons_self .., List.mem_cons_of_mem _ hcp⟩
            · exact ⟨p, List.mem_cons_of_mem _ hp, hcp⟩
theorem right_no10 {k : Nat} {r : List UInt8} (h : rightU k r = true) : (10 : UInt8) ∉ r := by
  unfold rightU at h
  split at h
  · have hn := of_decide_eq_true h
    unfold namesL at hn
    split at hn
    · exact absurd rfl hn
    · rename_i h1
      split at hn
      · rename_i h2
        unfold okP at h2
        simp only [Bool.or_eq_true, Bool.and_eq_true, decide_eq_true_eq, List.all_eq_true] at h2
        rcases h2 with h2 | ⟨⟨⟨_, hh⟩, _⟩, ha⟩
        · exact absurd h2 h1
        · intro hm
          cases r with
          | nil => cases hm
          | cons c t =>
            have hc : c = 47 := by simpa using hh
            subst hc
            rcases List.mem_cons.1 hm with e | hm
            · cases e
            · rcases in_parts hm with e | ⟨p, hp, hcp⟩
              · cases e
              · exact name_no10 (ha p hp) hcp
      · exact absurd rfl hn
  · exact name_no10 h

/-- A line of a unit's text, without its end. -/
def lineW (x y : List UInt8) : List UInt8 := x ++ 32 :: y
theorem lineT_app (x y R : List UInt8) : lineT x y ++ R = lineW x y ++ 10 :: R := by simp [lineT, lineW]
theorem lines_one {x y : List UInt8} (hx : (10 : UInt8) ∉ x) (hy : (10 : UInt8) ∉ y) (R : List UInt8) : linesL (lineT x y ++ R) = lineW x y :: linesL R := by
  rw [lineT_app, lines_line]
  intro h
  rcases List.mem_append.1 h with h | h
  · exact hx h
  · rcases List.mem_cons.1 h with h | h
    · cases h
    · exact hy h
theorem lines_many {x : List UInt8} (hx : (10 : UInt8) ∉ x) {l : List (List UInt8)} (hl : ∀ y ∈ l, (10 : UInt8) ∉ y) (R : List UInt8) : linesL (linesW x l ++ R) = l.map (lineW x) ++ linesL R := by
  induction l with
  | nil => rfl
  | cons y l ih =>
    rw [show linesW x (y :: l) ++ R = lineT x y ++ (linesW x l ++ R) by simp [linesW], lines_one hx (hl y (List.mem_cons_self ..)), ih fun z hz => hl z (List.mem_cons_of_mem _ hz)]
    rfl
theorem step_lineW {x : List UInt8} (h1 : (32 : UInt8) ∉ x) (h2 : x ≠ []) (h3 : x.head? ≠ some 35) (u : UD) (y : List UInt8) : stepU u (lineW x y) = if x = wUnit then nameU u y else if x = wRetry then retryU u y else pickU u x y := by
  unfold stepU lineW
  rw [if_neg, lineU, cutL_word h1]
  rintro (e | e)
  · cases x <;> simp at e
  · cases x with
    | nil => exact h2 rfl
    | cons c x => exact h3 (by simpa using e)
theorem wordsU_ok : ∀ k, k < 6 → ∃ x, wordsU[k]? = some x ∧ (32 : UInt8) ∉ x ∧ x ≠ [] ∧ x.head? ≠ some 35 ∧ (10 : UInt8) ∉ x ∧ x ≠ wUnit ∧ x ≠ wRetry ∧ wordAt x = some k := fun k hk => by
  match k, hk with
  | 0, _ => exact ⟨_, rfl, by decide, by decide, by decide, by decide, by decide, by decide, by decide⟩
  | 1, _ => exact ⟨_, rfl, by decide, by decide, by decide, by decide, by decide, by decide, by decide⟩
  | 2, _ => exact ⟨_, rfl, by decide, by decide, by decide, by decide, by decide, by decide, by decide⟩
  | 3, _ => exact ⟨_, rfl, by decide, by decide, by decide, by decide, by decide, by decide, by decide⟩
  | 4, _ => exact ⟨_, rfl, by decide, by decide, by decide, by decide, by decide, by decide, by decide⟩
  | 5, _ => exact ⟨_, rfl, by decide, by decide, by decide, by decide, by decide, by decide, by decide⟩
theorem listU_self {u : UD} {k : Nat} (h : k < u.ls.length) : ({ u with ls := u.ls.set k (listU u k) } : UD) = u := by
  have : u.ls.set k (listU u k) = u.ls := by
    unfold listU
    rw [List.getD_eq_getElem?_getD, List.getElem?_eq_getElem h, Option.getD_some, List.set_getElem_self]
  rw [this]
theorem run_list {k : Nat} (hk : k < 6) {x : List UInt8} (hx : wordsU[k]? = some x) (R : List (List UInt8)) : ∀ (l : List (List UInt8)) (u : UD) (n : Nat), k < u.ls.length → (∀ y ∈ l, rightU k y = true) → (listU u k ++ l).Nodup → (listU u k ++ l).length ≤ 8 → ∃ m, runU u n (l.map (lineW x) ++ R) = runU { u with ls := u.ls.set k (listU u k ++ l) } m R := by
  obtain ⟨x', hx', a1, a2, a3, a4, a5, a6, a7⟩ := wordsU_ok k hk
  obtain rfl : x' = x := Option.some.inj (hx'.symm.trans hx)
  intro l
  induction l with
  | nil =>
    intro u n hu _ _ _
    refine ⟨n, ?_⟩
    rw [List.append_nil, listU_self hu]
    rfl
  | cons y l ih =>
    intro u n hu hr hnd hlen
    have hs : stepU u (lineW x' y) = ({ u with ls := u.ls.set k (listU u k ++ [y]) }, 0) := by
      rw [step_lineW a1 a2 a3, if_neg a5, if_neg a6]
      unfold pickU
      rw [a7]
      show linkU u k y = _
      unfold linkU
      have hy : y ∉ listU u k := fun h => (List.nodup_append.1 hnd).2.2 y h y (List.mem_cons_self ..) rfl
      have hl : ¬ (listU u k).length = 8 := by rw [List.length_append, List.length_cons] at hlen; omega
      rw [if_neg (by rw [hr y (List.mem_cons_self ..)]; decide), if_neg hy, if_neg hl]
    have e : listU { u with ls := u.ls.set k (listU u k ++ [y]) } k = listU u k ++ [y] := by rw [listU_set hu, if_pos rfl]
    obtain ⟨m, hm⟩ := ih { u with ls := u.ls.set k (listU u k ++ [y]) } (n + 1) (by simpa using hu) (fun z hz => hr z (List.mem_cons_of_mem _ hz)) (by rw [e, List.append_assoc]; exact hnd) (by rw [e, List.append_assoc]; exact hlen)
    refine ⟨m, ?_⟩
    rw [List.map_cons, List.cons_append, run_cons, if_pos (by rw [hs]), hs]
    refine hm.trans ?_
    rw [e, List.set_set, List.append_assoc]
    rfl
def digU (r : Nat) : List UInt8 := [48 + UInt8.ofNat r]
theorem digit_of {r : Nat} (h : r ≤ 3) : digitU (digU r) = some r ∧ (10 : UInt8) ∉ digU r := by
  match r, h with
  | 0, _ => exact ⟨by decide, by decide⟩
  | 1, _ => exact ⟨by decide, by decide⟩
  | 2, _ => exact ⟨by decide, by decide⟩
  | 3, _ => exact ⟨by decide, by decide⟩
theorem parse_text {name : List UInt8} {l0 l1 l2 l3 l4 l5 : List (List UInt8)} {r : Nat} (h : GoodU name [l0, l1, l2, l3, l4, l5] r) : parseU (textT name [l0, l1, l2, l3, l4, l5] (digU r)) = (0, 0, ⟨name, [l0, l1, l2, l3, l4, l5], some r⟩) := by
  obtain ⟨hn, _, hr, hf, he⟩ := h
  have hr3 : r ≤ 3 := by omega
  have e0 := he 0 (by omega)
  have e1 := he 1 (by omega)
  have e2 := he 2 (by omega)
  have e3 := he 3 (by omega)
  have e4 := he 4 (by omega)
  have e5 := he 5 (by omega)
  have d0 : ([l0, l1, l2, l3, l4, l5] : List (List (List UInt8))).getD 0 [] = l0 := rfl
  have d1 : ([l0, l1, l2, l3, l4, l5] : List (List (List UInt8))).getD 1 [] = l1 := rfl
  have d2 : ([l0, l1, l2, l3, l4, l5] : List (List (List UInt8))).getD 2 [] = l2 := rfl
  have d3 : ([l0, l1, l2, l3, l4, l5] : List (List (List UInt8))).getD 3 [] = l3 := rfl
  have d4 : ([l0, l1, l2, l3, l4, l5] : List (List (List UInt8))).getD 4 [] = l4 := rfl
  have d5 : ([l0, l1, l2, l3, l4, l5] : List (List (List UInt8))).getD 5 [] = l5 := rfl
  rw [d0] at e0 hf
  rw [d1] at e1
  rw [d2] at e2
  rw [d3] at e3
  rw [d4] at e4
  rw [d5] at e5
  have ht : linesL (textT name [l0, l1, l2, l3, l4, l5] (digU r)) = lineW wUnit name :: (l0.map (lineW [102, 105, 108, 101]) ++ (l1.map (lineW [97, 102, 116, 101, 114]) ++ (l2.map (lineW [98, 101, 102, 111, 114, 101]) ++ (l3.map (lineW [114, 101, 113, 117, 105, 114, 101, 115]) ++ (l4.map (lineW [119, 97, 110, 116, 115]) ++ (l5.map (lineW [112, 97, 114, 116, 111, 102]) ++ [lineW wRetry (digU r), []])))))) := by
    have hb : bodyT wordsU [l0, l1, l2, l3, l4, l5] = linesW [102, 105, 108, 101] l0 ++ (linesW [97, 102, 116, 101, 114] l1 ++ (linesW [98, 101, 102, 111, 114, 101] l2 ++ (linesW [114, 101, 113, 117, 105, 114, 101, 115] l3 ++ (linesW [119, 97, 110, 116, 115] l4 ++ (linesW [112, 97, 114, 116, 111, 102] l5 ++ []))))) := rfl
    unfold textT
    rw [lines_one (by decide) (name_no10 hn), hb]
    simp only [List.append_assoc, List.nil_append]
    rw [lines_many (by decide) fun y hy => right_no10 (e0.1 y hy), lines_many (by decide) fun y hy => right_no10 (e1.1 y hy), lines_many (by decide) fun y hy => right_no10 (e2.1 y hy), lines_many (by decide) fun y hy => right_no10 (e3.1 y hy), lines_many (by decide) fun y hy => right_no10 (e4.1 y hy), lines_many (by decide) fun y hy => right_no10 (e5.1 y hy)]
    have := lines_one (x := wRetry) (y := digU r) (by decide) (digit_of hr3).2 []
    rw [List.append_nil] at this
    rw [this]
    rfl
  have hne : name ≠ [] := by intro e; subst e; cases hn
  have s0 : stepU UD0 (lineW wUnit name) = ({ UD0 with name := name }, 0) := by
    rw [step_lineW (by decide) (by decide) (by decide), if_pos rfl]
    unfold nameU
    rw [if_neg (by rw [hn]; decide), if_neg (fun e => e rfl)]
  unfold parseU
  rw [ht, run_cons, if_pos (by rw [s0]), s0]
  obtain ⟨m0, g0⟩ := run_list (k := 0) (by omega) rfl (l1.map (lineW [97, 102, 116, 101, 114]) ++ (l2.map (lineW [98, 101, 102, 111, 114, 101]) ++ (l3.map (lineW [114, 101, 113, 117, 105, 114, 101, 115]) ++ (l4.map (lineW [119, 97, 110, 116, 115]) ++ (l5.map (lineW [112, 97, 114, 116, 111, 102]) ++ [lineW wRetry (digU r), []]))))) l0 ⟨name, [[], [], [], [], [], []], none⟩ 1 (by simp) e0.1 e0.2.1 e0.2.2
  obtain ⟨m1, g1⟩ := run_list (k := 1) (by omega) rfl (l2.map (lineW [98, 101, 102, 111, 114, 101]) ++ (l3.map (lineW [114, 101, 113, 117, 105, 114, 101, 115]) ++ (l4.map (lineW [119, 97, 110, 116, 115]) ++ (l5.map (lineW [112, 97, 114, 116, 111, 102]) ++ [lineW wRetry (digU r), []])))) l1 ⟨name, [l0, [], [], [], [], []], none⟩ m0 (by simp) e1.1 e1.2.1 e1.2.2
  obtain ⟨m2, g2⟩ := run_list (k := 2) (by omega) rfl (l3.map (lineW [114, 101, 113, 117, 105, 114, 101, 115]) ++ (l4.map (lineW [119, 97, 110, 116, 115]) ++ (l5.map (lineW [112, 97, 114, 116, 111, 102]) ++ [lineW wRetry (digU r), []]))) l2 ⟨name, [l0, l1, [], [], [], []], none⟩ m1 (by simp) e2.1 e2.2.1 e2.2.2
  obtain ⟨m3, g3⟩ := run_list (k := 3) (by omega) rfl (l4.map (lineW [119, 97, 110, 116, 115]) ++ (l5.map (lineW [112, 97, 114, 116, 111, 102]) ++ [lineW wRetry (digU r), []])) l3 ⟨name, [l0, l1, l2, [], [], []], none⟩ m2 (by simp) e3.1 e3.2.1 e3.2.2
  obtain ⟨m4, g4⟩ := run_list (k := 4) (by omega) rfl (l5.map (lineW [112, 97, 114, 116, 111, 102]) ++ [lineW wRetry (digU r), []]) l4 ⟨name, [l0, l1, l2, l3, [], []], none⟩ m3 (by simp) e4.1 e4.2.1 e4.2.2
  obtain ⟨m5, g5⟩ := run_list (k := 5) (by omega) rfl [lineW wRetry (digU r), []] l5 ⟨name, [l0, l1, l2, l3, l4, []], none⟩ m4 (by simp) e5.1 e5.2.1 e5.2.2
  have s1 : stepU ⟨name, [l0, l1, l2, l3, l4, l5], none⟩ (lineW wRetry (digU r)) = (⟨name, [l0, l1, l2, l3, l4, l5], some r⟩, 0) := by
    rw [step_lineW (by decide) (by decide) (by decide), if_neg (by decide), if_pos rfl]
    unfold retryU
    rw [(digit_of hr3).1]
    rfl
  have s2 : runU ⟨name, [l0, l1, l2, l3, l4, l5], none⟩ m5 [lineW wRetry (digU r), []] = (0, m5 + 1 + 1, ⟨name, [l0, l1, l2, l3, l4, l5], some r⟩) := by
    rw [run_cons, if_pos (by rw [s1]), s1]
    rfl
  have hall : runU ⟨name, [[], [], [], [], [], []], none⟩ 1 (l0.map (lineW [102, 105, 108, 101]) ++ (l1.map (lineW [97, 102, 116, 101, 114]) ++ (l2.map (lineW [98, 101, 102, 111, 114, 101]) ++ (l3.map (lineW [114, 101, 113, 117, 105, 114, 101, 115]) ++ (l4.map (lineW [119, 97, 110, 116, 115]) ++ (l5.map (lineW [112, 97, 114, 116, 111, 102]) ++ [lineW wRetry (digU r), []])))))) = (0, m5 + 1 + 1, ⟨name, [l0, l1, l2, l3, l4, l5], some r⟩) :=
    g0.trans (g1.trans (g2.trans (g3.trans (g4.trans (g5.trans s2)))))
  show endU (runU ⟨name, [[], [], [], [], [], []], none⟩ 1 _) = _
  rw [hall, end_ok rfl, if_neg]
  rintro (e | e)
  · exact hne e
  · exact hf e
theorem good_same {name : List UInt8} {ls : List (List (List UInt8))} {r : Int} {s : List UInt8} (h : (parseU s).1 = 0) (hs : (parseU s).2.2.name = name ∧ retU (parseU s).2.2 = r ∧ (parseU s).2.2.ls = ls) : GoodU name ls r := by
  obtain ⟨rfl, rfl, rfl⟩ := hs
  exact parse_good s h
end Go.Proofs.YtmnohaefklglfaaDoor
