/- Read: too short, or a sum that isn't theirs. -/
import Derived.Test.YtihnjhigemhknaaGreatDoorAr15
import Derived.Deep.QuietTactic
import Derived.BigQuiet
namespace Go.Proofs.YtihnjhigemhknaaGreatDoor
open Go.RowKit
set_option linter.unusedVariables false
set_option linter.unusedSimpArgs false
set_option maxRecDepth 100000

theorem sb_strA (zs : List Int) (h : Byts zs) : sb (strOfNums zs) = zs := by
  unfold sb strOfNums
  simp only [List.map_map]
  conv => rhs; rw [← List.map_id zs]
  refine List.map_congr_left fun z hz => ?_
  have := h z hz
  simp
  omega
theorem str_sameA (a b : List Int) (ha : Byts a) (hb : Byts b) : ((strOfNums a).toList == (strOfNums b).toList) = decide (a = b) := by
  by_cases h : a = b
  · subst h; simp
  · rw [decide_eq_false h, Bool.eq_false_iff]
    intro e
    refine h ?_
    have e1 : (strOfNums a).toList = (strOfNums b).toList := by simpa using e
    rw [ByteArray.toList_eq, ByteArray.toList_eq] at e1
    rw [← sb_strA a ha, ← sb_strA b hb]
    unfold sb
    rw [e1]

theorem aequal_any (w : World) (v u : Value) (zs ys : List Int) (h : By w v zs) (k : By w u ys) :
    Calls Tryz.prog 32 #[v, u] w fun e w' => e = .returned (.bool (decide (zs = ys))) ∧ w = w' := by
  have hs := str_sameA zs ys h.2.1 k.2.1
  have c1 := h.toStr
  have c2 := k.toStr
  have HS := Lib.hid hs
  clear h k hs
  by_cases he : zs = ys
  · have hs' : ((strOfNums zs).toList == (strOfNums ys).toList) = true := by rw [HS.out]; simp [he]
    have HE := Lib.hid he
    clear he
    go_enter Tryz.func32, Tryz.ntmps32
    go_wp2_with fail
    go_ret
    exact ⟨by simp [HE.out], rfl⟩
  · have hs' : ((strOfNums zs).toList == (strOfNums ys).toList) = false := by rw [HS.out]; simp [he]
    have HE := Lib.hid he
    clear he
    go_enter Tryz.func32, Tryz.ntmps32
    go_wp2_with fail
    go_ret
    exact ⟨by simp [HE.out], rfl⟩

theorem By.frontA {w : World} {g o c : Nat} {zs : List Int} (h : By w (.slice (some ⟨g, o, none⟩) zs.length c) zs) (n : Nat) (hn : n ≤ zs.length) : By w (.slice (some ⟨g, o, none⟩) n c) (zs.take n) := by
  obtain ⟨hs, hz, a, c', hv, h1, h2⟩ := h
  injection hv with e1 e2 e3
  subst e3
  have hl : (zs.take n).length = n := by rw [List.length_take]; omega
  refine ⟨.inr ⟨⟨g, o, none⟩, c, by rw [hl], fun j u hj => ?_, bs_one _⟩, hz.take n, _, c, by rw [hl], by omega, h2⟩
  rcases hs with ⟨h3, _⟩ | ⟨ad, c2, h3, h4, _⟩
  · cases h3
  · injection h3 with e1 e2 e3
    injection e1 with e1
    subst e1
    refine h4 j u ?_
    have hjn : j < n := by
      have := (List.getElem?_eq_some_iff.1 hj).1
      rw [bs_length, hl] at this; exact this
    rw [← hj]
    simp [bs, List.getElem?_take, hjn]
theorem By.behindA {w : World} {g o c : Nat} {zs : List Int} (h : By w (.slice (some ⟨g, o, none⟩) zs.length c) zs) (n : Nat) (hn : n ≤ zs.length) : By w (.slice (some ⟨g, o + n, none⟩) (zs.length - n) (c - n)) (zs.drop n) := by
  obtain ⟨hs, hz, a, c', hv, h1, h2⟩ := h
  injection hv with e1 e2 e3
  subst e3
  have hl : (zs.drop n).length = zs.length - n := List.length_drop
  refine ⟨.inr ⟨⟨g, o + n, none⟩, c - n, by rw [hl], fun j u hj => ?_, bs_one _⟩, hz.drop n, _, c - n, by rw [hl], by omega, by omega⟩
  rcases hs with ⟨h3, _⟩ | ⟨ad, c2, h3, h4, _⟩
  · cases h3
  · injection h3 with e1 e2 e3
    injection e1 with e1
    subst e1
    have := h4 (n + j) u (by rw [← hj]; simp [bs, List.getElem?_drop])
    rw [Addr.add_mid] at this ⊢
    rw [← Nat.add_assoc] at this
    exact this
theorem ret_cellT {P : Program} {fn : Func} {p q : Tmp} {ty : TypeId} (h : fn.results = #[.cell p ty, .tmp q]) {tmps : Array Value} {w : World} {b : Nat} {cs : List Value} {d : TypeDesc} {x : Value} (hp : tmps.getD p undef = .pointer (some ⟨b, 0, none⟩)) (hq : tmps.getD q undef = x)
    (hr : w.rangeAt b 0 cs) (ht : P.underlying ty = some d) (hd : d.isRow = true) (hi : (P.info? ty).map (·.size) = some cs.length) : (results fn tmps).run P w = .ok (.tuple #[.agg cs.toArray, x]) w := by
  have e : (asAddr (.pointer (some ⟨b, 0, none⟩))).run P w = .ok ⟨b, 0, none⟩ w := rfl
  have hp' : tmps[p]?.getD undef = .pointer (some ⟨b, 0, none⟩) := by simpa using hp
  have hq' : tmps[q]?.getD undef = x := by simpa using hq
  simp only [results, h]
  simp [Sem.run_bind, Result.andThen, hp', hq', e, run_loadVar_mid w b 0 ty cs d hr ht hd hi]
theorem pkg_rowInfo : (Tryz.prog.info? 26).map (·.size) = some 6 := by kernel_rfl
set_option maxHeartbeats 4000000 in
theorem read_short (v : Value) (zs : List Int) (w : World) (h : By w v zs) (hz : zs.length < 4) :
    Calls Tryz.prog 12 #[v] w fun e w' => e = .returned (.tuple #[(.agg #[.string ⟨#[]⟩, .string ⟨#[]⟩, .slice none 0 0, .slice none 0 0, .slice none 0 0, .slice none 0 0]), .int .i64 5]) ∧ Below w.heap.size w w' := by
  have hO0 := Lib.hid ((Own.start w).box6 (.string ⟨#[]⟩) (.string ⟨#[]⟩) (.slice none 0 0) (.slice none 0 0) (.slice none 0 0) (.slice none 0 0) 26)
  have hir := pkg_rowInfo
  obtain ⟨va, vc, hv, q1, q2⟩ := h.2.2
  subst hv
  obtain ⟨n, hn⟩ : ∃ n, zs.length = n := ⟨_, rfl⟩
  rw [hn] at hz q1 ⊢
  have hz2 : ((n : Int) - 4 < 0) := by omega
  have hz3 : -9223372036854775808 ≤ (n : Int) - 4 := by omega
  clear h hn q1 q2
  go_enter Tryz.func12, Tryz.ntmps12
  go_wp2_with fail
  go_quiet (fail)
  go_wp2_with fail
  rename_i nq _
  rw [← set6]
  have h5 : Own w _ _ := p6_set (A := []) (B := []) (hO0.out.drewN (n := nq)) rfl [.string ⟨#[]⟩, .string ⟨#[]⟩, .slice none 0 0, .slice none 0 0, .slice none 0 0, .slice none 0 0] rfl
  obtain ⟨_, _, k5⟩ := p6_cells h5 (List.mem_cons_self ..)
  refine bodyPost_ret (ret_cellT Tryz.results12 rfl rfl k5 Tryz.underlying26 rfl hir) rfl ?_
  exact ⟨rfl, h5.below⟩
end Go.Proofs.YtihnjhigemhknaaGreatDoor
