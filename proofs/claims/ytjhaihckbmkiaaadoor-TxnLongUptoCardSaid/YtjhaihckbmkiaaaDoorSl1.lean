/- bytes.Equal; a call's results out of a box; what comes off bytes is short. -/
import Derived.Test.YtjhaihckbmkiaaaDoorSl0
import Derived.Deep.QuietTactic
import Derived.BigQuiet
namespace Go.Proofs.YtjhaihckbmkiaaaDoor
open Go.RowKit
set_option linter.unusedVariables false
set_option linter.unusedSimpArgs false
set_option maxRecDepth 100000

theorem ret_cellS {P : Program} {fn : Func} {p : Tmp} {ty : TypeId} (h : fn.results = #[.cell p ty]) {tmps : Array Value} {w : World} {b : Nat} {cs : List Value} {d : TypeDesc} (hp : tmps.getD p undef = .pointer (some ⟨b, 0, none⟩))
    (hr : w.rangeAt b 0 cs) (ht : P.underlying ty = some d) (hd : d.isRow = true) (hi : (P.info? ty).map (·.size) = some cs.length) : (results fn tmps).run P w = .ok (.agg cs.toArray) w := by
  have e : (asAddr (.pointer (some ⟨b, 0, none⟩))).run P w = .ok ⟨b, 0, none⟩ w := rfl
  have hp' : tmps[p]?.getD undef = .pointer (some ⟨b, 0, none⟩) := by simpa using hp
  simp only [results, h]
  simp [Sem.run_bind, Result.andThen, hp', e, run_loadVar_mid w b 0 ty cs d hr ht hd hi]

theorem sb_strA (zs : List Int) (h : Byts zs) : sb (strOfNums zs) = zs := by
  unfold sb strOfNums
  simp only [List.map_map]
  conv => rhs; rw [← List.map_id zs]
  refine List.map_congr_left fun z hz => ?_
  have := h z hz
  simp
  omega
theorem str_sameA (a b : List Int) (ha : Byts a) (hb : Byts b) : ((strOfNums a).toList == (strOfNums b).toList) = decide (a = b) := by
  by_cases h : a = b
  · subst h; simp
  · rw [decide_eq_false h, Bool.eq_false_iff]
    intro e
    refine h ?_
    have e1 : (strOfNums a).toList = (strOfNums b).toList := by simpa using e
    rw [ByteArray.toList_eq, ByteArray.toList_eq] at e1
    rw [← sb_strA a ha, ← sb_strA b hb]
    unfold sb
    rw [e1]

theorem aequal_any (w : World) (v u : Value) (zs ys : List Int) (h : By w v zs) (k : By w u ys) :
    Calls Tryd.prog 17 #[v, u] w fun e w' => e = .returned (.bool (decide (zs = ys))) ∧ w = w' := by
  have hs := str_sameA zs ys h.2.1 k.2.1
  have c1 := h.toStr
  have c2 := k.toStr
  have HS := Lib.hid hs
  clear h k hs
  by_cases he : zs = ys
  · have hs' : ((strOfNums zs).toList == (strOfNums ys).toList) = true := by rw [HS.out]; simp [he]
    have HE := Lib.hid he
    clear he
    go_enter Tryd.func17, Tryd.ntmps17
    go_wp2_with fail
    go_ret
    exact ⟨by simp [HE.out], rfl⟩
  · have hs' : ((strOfNums zs).toList == (strOfNums ys).toList) = false := by rw [HS.out]; simp [he]
    have HE := Lib.hid he
    clear he
    go_enter Tryd.func17, Tryd.ntmps17
    go_wp2_with fail
    go_ret
    exact ⟨by simp [HE.out], rfl⟩

theorem ret_cellT {P : Program} {fn : Func} {p q : Tmp} {ty : TypeId} (h : fn.results = #[.cell p ty, .tmp q]) {tmps : Array Value} {w : World} {b : Nat} {cs : List Value} {d : TypeDesc} {x : Value} (hp : tmps.getD p undef = .pointer (some ⟨b, 0, none⟩)) (hq : tmps.getD q undef = x)
    (hr : w.rangeAt b 0 cs) (ht : P.underlying ty = some d) (hd : d.isRow = true) (hi : (P.info? ty).map (·.size) = some cs.length) : (results fn tmps).run P w = .ok (.tuple #[.agg cs.toArray, x]) w := by
  have e : (asAddr (.pointer (some ⟨b, 0, none⟩))).run P w = .ok ⟨b, 0, none⟩ w := rfl
  have hp' : tmps[p]?.getD undef = .pointer (some ⟨b, 0, none⟩) := by simpa using hp
  have hq' : tmps[q]?.getD undef = x := by simpa using hq
  simp only [results, h]
  simp [Sem.run_bind, Result.andThen, hp', hq', e, run_loadVar_mid w b 0 ty cs d hr ht hd hi]
theorem bodP_fst_le (most : Int) (zs : List Int) (bad : Bool) : (bodP most zs bad).1.length ≤ zs.length := by
  unfold bodP
  split
  · unfold bodyOf; dsimp only; rw [List.length_take, List.length_drop]; omega
  · simp
theorem runT_all {α : Type} (f : List Int → Bool → α × List Int × Bool) (p : α → Prop) (N : Nat) (hp : ∀ zs bad, zs.length ≤ N → p (f zs bad).1) (hl : ∀ zs bad, 0 < zs.length → (f zs bad).2.1.length < zs.length) : ∀ (k : Nat) (zs : List Int) (bad : Bool), zs.length ≤ N → (∀ x ∈ runT f k zs bad, p x) ∧ (runT f k zs bad).length ≤ zs.length
  | 0, zs, bad, _ => ⟨fun x hx => (by simp [runT] at hx), by simp [runT]⟩
  | k + 1, zs, bad, hN => by
    unfold runT
    by_cases h0 : zs.length = 0
    · rw [if_pos h0]; exact ⟨fun x hx => (by cases hx), by simp⟩
    · rw [if_neg h0]
      have h1 := hl zs bad (by omega)
      obtain ⟨i1, i2⟩ := runT_all f p N hp hl k (f zs bad).2.1 (f zs bad).2.2 (by omega)
      refine ⟨fun x hx => ?_, by rw [List.length_cons]; omega⟩
      rcases List.mem_cons.1 hx with rfl | hx
      · exact hp zs bad hN
      · exact i1 x hx
theorem strNums_size (zs : List Int) : (strOfNums zs).size = zs.length := by
  show (List.toArray _).size = _
  simp
theorem tkT_all {α : Type} (f : List Int → Bool → α × List Int × Bool) (p : α → Prop) (N : Nat) (hp : ∀ zs bad, zs.length ≤ N → p (f zs bad).1) (hl : ∀ zs bad, 0 < zs.length → (f zs bad).2.1.length < zs.length) (s : List Int × Bool) (hs : s.1.length ≤ N) : (∀ x ∈ tkT f s, p x) ∧ (tkT f s).length ≤ N := by
  have h := inL_len s.1
  obtain ⟨a, b⟩ := runT_all f p N hp hl (inL s.1).1.length (inL s.1).1 (inL s.1).2 (by omega)
  exact ⟨a, by unfold tkT; omega⟩
theorem flatE_len {α : Type} (cells : α → List Value) (size : Nat) (hs : ∀ x, (cells x).length = size) (ns : List α) : (ns.map cells).flatten.length = ns.length * size := by
  induction ns with
  | nil => simp
  | cons d r ih => rw [List.map_cons, List.flatten_cons, List.length_append, ih, hs, List.length_cons, Nat.succ_mul]; omega
theorem flatE_at {α : Type} (cells : α → List Value) (size : Nat) (hs : ∀ x, (cells x).length = size) (ns : List α) (i j : Nat) (hi : i < ns.length) (hj : j < size) : (ns.map cells).flatten[i * size + j]? = (cells ns[i])[j]? := by
  rw [← flat_at cells size hs ns i hi, List.getElem?_take_of_lt hj, List.getElem?_drop]
theorem flatE_one {α : Type} (cells : α → List Value) (ns : List α) (h1 : ∀ x, ∀ u ∈ cells x, u.oneCell' = true) : ∀ u ∈ (ns.map cells).flatten, u.oneCell' = true := by
  intro u hu
  obtain ⟨l, hl, h2⟩ := List.mem_flatten.1 hu
  obtain ⟨d, _, rfl⟩ := List.mem_map.1 hl
  exact h1 d u h2
theorem slc_src {α : Type} {w : World} {ad : Addr} {size c : Nat} (cells : α → List Value) (hs : ∀ x, (cells x).length = size) (h1 : ∀ x, ∀ u ∈ cells x, u.oneCell' = true) (hp : 0 < size) {ns : List α} (hS : SlcA w (some ad) size (ns.map cells)) : Src w (.slice (some ad) ns.length c) ns.length (ns.map cells).flatten := by
  refine .inr ⟨_, _, rfl, fun j u hj => ?_, flatE_one cells ns h1⟩
  have hj4 : j < ns.length * size := by
    have := (List.getElem?_eq_some_iff.1 hj).1
    rw [flatE_len cells size hs] at this; exact this
  have hi4 : j / size < ns.length := Nat.div_lt_of_lt_mul (by rw [Nat.mul_comm]; exact hj4)
  have hm : j = j / size * size + j % size := by have := Nat.div_add_mod j size; rw [Nat.mul_comm] at this; omega
  obtain ⟨g, o, e, h2⟩ := hS (j / size) (by simpa using hi4)
  injection e with e
  subst e
  rw [hm, flatE_at cells size hs ns _ _ hi4 (Nat.mod_lt _ hp)] at hj
  have h3 := h2 (j % size) u (by simpa using hj)
  rw [Addr.add_mid]
  rw [show o + j = o + j / size * size + j % size by omega]
  exact h3
theorem slc_none {α : Type} {w : World} {size : Nat} {cells : α → List Value} {ns : List α} (hS : SlcA w none size (ns.map cells)) : ns = [] := by
  cases ns with
  | nil => rfl
  | cons x r => obtain ⟨g, o, e, _⟩ := hS 0 (by simp); cases e
def oneS (x : ByteArray) : List Value := [Value.string x]
theorem oneS_one (x : ByteArray) : ∀ u ∈ oneS x, u.oneCell' = true := by
  intro u hu; simp only [oneS, List.mem_cons, List.not_mem_nil, or_false] at hu; subst hu; rfl
end Go.Proofs.YtjhaihckbmkiaaaDoor
