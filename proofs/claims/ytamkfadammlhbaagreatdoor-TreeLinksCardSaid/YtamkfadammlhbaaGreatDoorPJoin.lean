/- 'Join', 'Right', 'Parent' of package path. -/
import Derived.Test.YtamkfadammlhbaaGreatDoorPSplit
import Derived.Deep.RegionHeld3
namespace Go.Proofs.YtamkfadammlhbaaGreatDoor
open Go.RowKit
set_option linter.unusedVariables false
set_option linter.unusedSimpArgs false

/-- A slice value that reads as these texts. -/
def Sts (w : World) (v : Value) (ls : List (List UInt8)) : Prop :=
  ∃ a c, v = .slice a ls.length c ∧ ls.length ≤ c ∧ c ≤ maxLen ∧ (0 < ls.length → ∃ b o, a = some ⟨b, o, none⟩ ∧ b < w.heap.size ∧ ∀ (j : Nat) (h : j < ls.length), w.cell? ⟨b, o + j, none⟩ = some (.string (toB ls[j])))
theorem Sts.later {w w' : World} {v : Value} {ls : List (List UInt8)} (h : Sts w v ls) (hb : Below w.heap.size w w') : Sts w' v ls := by
  obtain ⟨a, c, h1, h2, h3, h4⟩ := h
  refine ⟨a, c, h1, h2, h3, fun hn => ?_⟩
  obtain ⟨b, o, h5, h6, h7⟩ := h4 hn
  exact ⟨b, o, h5, Nat.lt_of_lt_of_le h6 hb.size, fun j hj => by rw [hb.cell (p := ⟨b, o + j, none⟩) h6]; exact h7 j hj⟩
theorem Own.sts {W0 : Base} {w : World} {v : Value} {ls : List (List UInt8)} {L : List Rw} (h : Own W0 w (rowS v ls :: L)) : Sts w v ls := by
  by_cases hn : 0 < ls.length
  · obtain ⟨g, cap, h1, h2, h3⟩ := h.form hn
    obtain ⟨a, c, h4, h5, h6⟩ := h.sized
    rw [h1] at h4
    injection h4 with e1 e2 e3
    subst h1
    refine ⟨_, cap, rfl, by omega, by omega, fun _ => ⟨g, 0, rfl, by omega, fun j hj => ?_⟩⟩
    rw [Nat.zero_add]; exact h.str j hj
  · obtain ⟨a, c, h4, h5, h6⟩ := h.sized
    exact ⟨a, c, h4, h5, h6, fun h => absurd h hn⟩
theorem Sts.take {w : World} {a : Option Addr} {n c : Nat} {ls : List (List UInt8)} (h : Sts w (.slice a n c) ls) (k : Nat) (hk : k ≤ ls.length) : Sts w (.slice a k c) (ls.take k) := by
  obtain ⟨a', c', h1, h2, h3, h4⟩ := h
  injection h1 with e1 e2 e3
  subst e1 e3
  have hl : (ls.take k).length = k := by rw [List.length_take]; omega
  refine ⟨a, c, by rw [hl], by omega, h3, fun hn => ?_⟩
  obtain ⟨b, o, h5, h6, h7⟩ := h4 (by omega)
  refine ⟨b, o, h5, h6, fun j hj => ?_⟩
  rw [h7 j (by omega), List.getElem_take]

/-- The path of names. -/
def joinL (ls : List (List UInt8)) : List UInt8 := 47 :: Lib.join ls [47]
theorem join_len (ls : List (List UInt8)) (m : Nat) (h : ∀ l ∈ ls, l.length ≤ m) : (Lib.join ls [47]).length ≤ ls.length * (m + 1) := by
  cases ls with
  | nil => simp [Lib.join_nil]
  | cons x r =>
    rw [Lib.join_cons]
    have h1 := h x (List.mem_cons_self ..)
    have h2 : (Lib.joinTail [47] r).length ≤ r.length * (m + 1) := by
      have hr : ∀ l ∈ r, l.length ≤ m := fun l hl => h l (List.mem_cons_of_mem _ hl)
      clear h h1
      induction r with
      | nil => simp [Lib.joinTail]
      | cons y r ih =>
        have := ih (fun l hl => hr l (List.mem_cons_of_mem _ hl))
        have hy := hr y (List.mem_cons_self ..)
        simp only [Lib.joinTail, List.map_cons, List.flatten_cons, List.length_append, List.length_singleton] at this ⊢
        rw [List.length_cons, Nat.add_mul]; omega
    rw [List.length_append, List.length_cons, Nat.add_mul]; omega
theorem join_size (ls : List (List UInt8)) (m : Nat) (h : ∀ l ∈ ls, l.length ≤ m) (hm : m ≤ 1000) (hn : ls.length ≤ 1000) : (Lib.join ls [47]).length ≤ 1001000 := by
  have h1 := join_len ls m h
  have h2 : ls.length * (m + 1) ≤ 1000 * 1001 := Nat.mul_le_mul hn (by omega)
  omega
theorem strings_join (v : Value) (ls : List (List UInt8)) (w : World) (h : Sts w v ls) (hs : (Lib.join ls [47]).length ≤ 1001000) (hn : ls.length ≤ 1000) :
    Calls Tryz.prog 131 #[v, .string ⟨#[47]⟩] w fun e w' => e = .returned (.string (toB (Lib.join ls [47]))) ∧ Below w.heap.size w w' := by
  obtain ⟨a, c, h1, h2, h3, h4⟩ := h
  subst h1
  cases ls with
  | nil =>
    refine (Tryz.strings_Join_none a c ⟨#[47]⟩ w).mono ?_
    rintro e w' ⟨rfl, rfl⟩
    exact ⟨rfl, Below.refl _ _⟩
  | cons x r =>
    obtain ⟨b, o, h5, h6, h7⟩ := h4 (by simp)
    subst h5
    have hm : ((x :: r).map toB).map (·.data.toList) = x :: r := by
      rw [List.map_map]; exact List.map_id' _
    have hc := Tryz.strings_Join b o c ((x :: r).map toB) ⟨#[47]⟩ w (fun j y hj => by
      rw [List.getElem?_map] at hj
      obtain ⟨z, hz, rfl⟩ := Option.map_eq_some_iff.1 hj
      obtain ⟨hj2, rfl⟩ := List.getElem?_eq_some_iff.1 hz
      exact h7 j hj2) h6 (by rw [List.length_map]; omega) (by rw [List.length_map]; exact h2) (by rw [hm]; show (Lib.join (x :: r) [47]).length ≤ _; omega)
    rw [List.length_map, hm] at hc
    exact hc
theorem join_any (v : Value) (ls : List (List UInt8)) (w : World) (h : Sts w v ls) (hs : (Lib.join ls [47]).length ≤ 1001000) (hn : ls.length ≤ 1000) :
    Calls Tryz.prog 111 #[v] w fun e w' => e = .returned (.string (toB (joinL ls))) ∧ Below w.heap.size w w' := by
  have hj := strings_join v ls w h hs hn
  have HE := Lib.hid (show (⟨#[47]⟩ : ByteArray) ++ toB (Lib.join ls [47]) = toB (joinL ls) from by
    apply ByteArray.ext; simp [joinL])
  obtain ⟨a, c, h1, h2, h3, h4⟩ := h
  subst h1
  clear h4 h2 h3
  generalize hX : Lib.join ls [47] = X at *
  clear hX
  go_enter Tryz.func111, Tryz.ntmps111
  go_wp2_with (go_at_call 131; refine hj.mono ?_; rintro e w' ⟨rfl, hb⟩)
  go_ret
  exact ⟨by rw [HE.out]; rfl, hb⟩

theorem names_bounds (l : List UInt8) : (namesL l).length ≤ 5 ∧ ∀ n ∈ namesL l, nameL n = true := by
  unfold namesL
  split
  · simp
  · rename_i h1
    split
    · rename_i h2
      unfold okP at h2
      rw [decide_eq_false h1] at h2
      simp only [Bool.false_or, Bool.and_eq_true, decide_eq_true_eq, List.all_eq_true] at h2
      exact ⟨h2.1.2, h2.2⟩
    · simp
theorem name_len {n : List UInt8} (h : nameL n = true) : 1 ≤ n.length ∧ n.length ≤ 12 := by
  unfold nameL at h
  simp only [Bool.and_eq_true, decide_eq_true_eq] at h
  exact ⟨h.1.1, h.1.2.1⟩
theorem parent_no (s : ByteArray) (w : World) (hs : s.size ≤ maxLen) (hm : Mx w) (h0 : namesL s.data.toList = []) : Calls Tryz.prog 87 #[.string s] w fun e w' => e = .returned (.tuple #[.string ⟨#[]⟩, .string ⟨#[]⟩, .bool false]) ∧ Below w.heap.size w w' := by
  have hc := split_any s w hs hm
  generalize s.data.toList = l at *
  have H0 := Lib.hid h0
  clear h0
  go_enter Tryz.func87, Tryz.ntmps87
  go_wp2_with fail
  refine hc.mono ?_
  rintro e w' ⟨v, rfl, hO⟩
  obtain ⟨a, c, rfl, _, _⟩ := hO.sized
  rw [H0.out]
  have hb := hO.below
  clear hO
  go_wp2
  exact bodyPost_ret (v := .tuple #[.string ⟨#[]⟩, .string ⟨#[]⟩, .bool false]) (by simp [results, Tryz.results87, go_sem]) rfl ⟨rfl, hb⟩
theorem parent_yes (s : ByteArray) (w : World) (hs : s.size ≤ maxLen) (hm : Mx w) (ini : List (List UInt8)) (z : List UInt8) (h0 : namesL s.data.toList = ini ++ [z]) : Calls Tryz.prog 87 #[.string s] w fun e w' => e = .returned (.tuple #[.string (toB (joinL ini)), .string (toB z), .bool true]) ∧ Below w.heap.size w w' := by
  have hc := split_any s w hs hm
  generalize s.data.toList = l at *
  obtain ⟨h5, h6⟩ := names_bounds l
  rw [h0] at h5 h6
  rw [List.length_append, List.length_singleton] at h5
  have hj := join_size ini 12 (fun n hn => (name_len (h6 n (List.mem_append_left _ hn))).2) (by omega) (by omega)
  have H0 := Lib.hid h0
  have HLN := Lib.hid (show (ini ++ [z]).length = ini.length + 1 by simp)
  clear h0 h6
  go_enter Tryz.func87, Tryz.ntmps87
  go_wp2_with fail
  refine hc.mono ?_
  rintro e w1 ⟨v, rfl, hO⟩
  rw [H0.out] at hO
  obtain ⟨g, cap, hv, _, _⟩ := hO.form (by rw [HLN.out]; omega)
  obtain ⟨a, c, hv2, hc1, hc2⟩ := hO.sized
  subst hv
  injection hv2 with e1 e2 e3
  subst e3 e1
  unfold maxLen at hc2
  have hld := hO.str ini.length (by rw [HLN.out]; omega)
  rw [show (ini ++ [z])[ini.length]'(by rw [HLN.out]; omega) = z by simp] at hld
  have HO := Lib.hid hO
  have hst := fun w' (h : Own w w' [rowS (.slice (some ⟨g, 0, none⟩) (ini ++ [z]).length cap) (ini ++ [z])]) => (h.sts).take ini.length (by rw [HLN.out]; omega)
  rw [show (ini ++ [z]).take ini.length = ini by simp] at hst
  have HS := Lib.hid hst
  have hz := fun w' (h : Own w w' [rowS (.slice (some ⟨g, 0, none⟩) (ini ++ [z]).length cap) (ini ++ [z])]) => h.str ini.length (by rw [HLN.out]; omega)
  rw [show (ini ++ [z])[ini.length]'(by rw [HLN.out]; omega) = z by simp] at hz
  have HZ := Lib.hid hz
  rw [HLN.out] at hc1 HO HS HZ ⊢
  clear hO hst hz e2
  go_wp2_with fail
  have q1 : (0 : Int) ≤ (ini.length : Int) := by omega
  have q2 : (ini.length : Int) ≤ (cap : Int) := by omega
  have q3 : (ini.length : Int) < (ini.length : Int) + 1 := by omega
  have q4 : ini.length < ini.length + 1 := by omega
  have q5 : ini.length ≤ cap := by omega
  go_region_held3 (fun w' => w'.cell? ⟨g, ini.length, none⟩ = some (.string (toB z))) (first | assumption | go_keep) (first
    | (go_at_call 111; refine (join_any _ ini _ (HS.out _ (by first | exact HO.out.drew | exact HO.out)) hj (by omega)).mono ?_; rintro e w2 ⟨rfl, hb2⟩; have HO2 := Lib.hid (show Own w w2 [rowS (.slice (some ⟨g, 0, none⟩) (ini.length + 1) cap) (ini ++ [z])] from (by first | exact HO.out.drew.later hb2 | exact HO.out.later hb2)); have z2 := HZ.out w2 HO2.out))
  all_goals go_wp2_with fail
  all_goals exact bodyPost_ret (v := .tuple #[.string (toB (joinL ini)), .string (toB z), .bool true]) (by simp [results, Tryz.results87, go_sem]) rfl ⟨rfl, HO2.out.below⟩
end Go.Proofs.YtamkfadammlhbaaGreatDoor
