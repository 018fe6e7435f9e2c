/- The document's side of graphs: units as they lie in memory; Has, Find, Names. -/
import Derived.Test.YtnjabanjgckeoaaJ11
namespace Go.Proofs.Ytnjabanjgckeoaa
open Go.RowKit
open Go.ChangeMaps (setBlock)
set_option linter.unusedVariables false
set_option linter.unusedSimpArgs false
set_option maxRecDepth 100000

/-- The document's units in memory. -/
def DU (w : World) (v : Value) (us : List GU) : Prop := ∃ (a : Option Addr) (c : Nat) (xs : List UV), v = .slice a us.length c ∧ us.length ≤ 1000000 ∧ Units w xs us ∧ ∀ i (h : i < xs.length), ∃ b o, a = some ⟨b, o, none⟩ ∧ w.rangeAt b (o + i * 8) xs[i].cells
theorem rangeD_later {w w' : World} (hb : Below w.heap.size w w') {g off : Nat} {cs : List Value} (hr : w.rangeAt g off cs) : w'.rangeAt g off cs := fun j v hj => by
  have h1 := hr j v hj
  rw [hb.cell (p := ⟨g, off + j, none⟩) (World.block_lt_of_cell? w _ h1)]
  exact h1
theorem DU.later {w w' : World} {v : Value} {us : List GU} (h : DU w v us) (hb : Below w.heap.size w w') : DU w' v us := by
  obtain ⟨a, c, xs, e, hl, hU, hr⟩ := h
  exact ⟨a, c, xs, e, hl, hU.later hb, fun i hi => by
    obtain ⟨b, o, e1, h1⟩ := hr i hi
    exact ⟨b, o, e1, rangeD_later hb h1⟩⟩
theorem DU.shape {w : World} {v : Value} {us : List GU} (h : DU w v us) : ∃ a c, v = .slice a us.length c := by
  obtain ⟨a, c, xs, e, _⟩ := h
  exact ⟨a, c, e⟩
/-- A unit's cells. -/
theorem DU.at {w : World} {a : Option Addr} {n c : Nat} {us : List GU} (h : DU w (.slice a n c) us) (i : Nat) (hi : i < us.length) : ∃ b o x, a = some ⟨b, o, none⟩ ∧ UVIs w x us[i] ∧ ∀ j u, x.cells[j]? = some u → w.cell? ⟨b, o + i * 8 + j, none⟩ = some u := by
  obtain ⟨a', c', xs, e, hl, hU, hr⟩ := h
  injection e with e1 _ _
  subst e1
  have hx : i < xs.length := by rw [hU.len]; exact hi
  obtain ⟨b, o, e1, h1⟩ := hr i hx
  exact ⟨b, o, xs[i], e1, hU.at i hx hi, fun j u hj => h1 j u hj⟩
set_option maxHeartbeats 1000000 in
theorem dhas_any (w : World) {v : Value} {ls : List Nm} (h : Sts w v ls) (s : Nm) : Calls Try.prog 31 #[v, .string (toB s)] w fun e w' => e = .returned (.bool (decide (s ∈ ls))) ∧ w' = w := by
  obtain ⟨a, c, rfl, h2, h3, h4⟩ := h
  have hn : (ls.length : Int) ≤ 9223372036854775807 := by unfold maxLen at h3; omega
  have H4 := Lib.hid h4
  clear h2 h3 h4
  generalize hsb : toB s = sb at *
  have Hsb := Lib.hid hsb
  clear hsb
  go_enter Try.func31, Try.ntmps31
  go_wp2_with fail
  go_loopw [5] (fun i wr => ∃ k : Nat, k ≤ ls.length ∧ i = .int .i64 k ∧ wr = w ∧ Hid (∀ j (hj : j < ls.length), j < k → ls[j] ≠ s)) (fun i _ => ls.length - (intOf i).toNat)
  case atStart => exact ⟨0, Nat.zero_le _, rfl, rfl, fun j _ h => absurd h (by omega)⟩
  case round =>
    obtain ⟨k, hk, rfl, rfl, HA⟩ := hrel
    by_cases hlt : k < ls.length
    · obtain ⟨b, o, rfl, hb, hc⟩ := H4.out (by omega)
      have ck := hc k hlt
      have hkl : (k : Int) < (ls.length : Int) := by omega
      clear hc
      by_cases he : ls[k] = s
      · have HM := Lib.hid (show decide (s ∈ ls) = true from decide_eq_true (he ▸ List.getElem_mem hlt))
        rw [he, Hsb.out] at ck
        clear he
        go_wp2_with fail
        go_ret
        exact ⟨by rw [HM.out]; rfl, rfl⟩
      · have hne : ((toB ls[k]).toList == sb.toList) = false := by rw [← Hsb.out, beq_nm]; exact decide_eq_false he
        have HB := Lib.hid (show ∀ j (hj : j < ls.length), j < k + 1 → ls[j] ≠ s from fun j hj hjk => by
          rcases Nat.lt_or_ge j k with h | h
          · exact HA.out j hj h
          · obtain rfl : j = k := by omega
            exact he)
        clear he
        generalize toB ls[k] = l at *
        go_wp2_with fail
        go_roundw
        case rel => exact ⟨k + 1, by omega, by go_num, by simp, HB⟩
        case measure => simp [intOf]; omega
    · have HM := Lib.hid (show decide (s ∈ ls) = false from decide_eq_false fun hs => by
        obtain ⟨j, hj, e⟩ := List.getElem_of_mem hs
        exact HA.out j hj (by omega) e)
      go_wp2_with fail
      go_ret
      exact ⟨by rw [HM.out]; rfl, rfl⟩
/-- Where a unit stands. -/
def FindIs (us : List GU) (n : Nm) (r : Int) : Prop := (r = -1 ∧ n ∉ namesU us) ∨ ∃ k, ∃ h : k < us.length, r = (k : Int) ∧ us[k].name = n ∧ n ∈ namesU us ∧ findU us n = us[k]
theorem findU_first {us : List GU} {n : Nm} {k : Nat} (hk : k < us.length) (h : us[k].name = n) (hb : ∀ j (hj : j < us.length), j < k → us[j].name ≠ n) : findU us n = us[k] := by
  unfold findU
  have : us.find? (fun u => decide (u.name = n)) = some us[k] := by
    rw [List.find?_eq_some_iff_getElem]
    exact ⟨decide_eq_true h, k, hk, rfl, fun j hj => by simpa using hb j (by omega) hj⟩
  rw [this]; rfl
set_option maxHeartbeats 1000000 in
theorem dfind_any (w : World) {v : Value} {us : List GU} (h : DU w v us) (n : Nm) : Calls Try.prog 14 #[v, .string (toB n)] w fun e w' => (∃ r, e = .returned (.int .i64 r) ∧ FindIs us n r) ∧ w' = w := by
  obtain ⟨a, c, rfl⟩ := h.shape
  have hn : (us.length : Int) ≤ 1000000 := by obtain ⟨_, _, _, _, hl, _⟩ := h; omega
  have H := Lib.hid h
  clear h
  generalize hnb : toB n = nb at *
  have Hnb := Lib.hid hnb
  clear hnb
  go_enter Try.func14, Try.ntmps14
  go_wp2_with fail
  go_loopw [5] (fun i wr => ∃ k : Nat, k ≤ us.length ∧ i = .int .i64 k ∧ wr = w ∧ Hid (∀ j (hj : j < us.length), j < k → us[j].name ≠ n)) (fun i _ => us.length - (intOf i).toNat)
  case atStart => exact ⟨0, Nat.zero_le _, rfl, rfl, fun j _ h => absurd h (by omega)⟩
  case round =>
    obtain ⟨k, hk, rfl, rfl, HA⟩ := hrel
    by_cases hlt : k < us.length
    · obtain ⟨b, o, x, rfl, hx, hc⟩ := H.out.at k hlt
      have ck : wr.cell? ⟨b, o + k * 8, none⟩ = some (.string (toB us[k].name)) := by
        have := hc 0 _ rfl
        rw [Nat.add_zero, hx.name] at this
        exact this
      have hkl : (k : Int) < (us.length : Int) := by omega
      clear hc hx
      by_cases he : us[k].name = n
      · have HM := Lib.hid (show FindIs us n (k : Int) from .inr ⟨k, hlt, rfl, he, he ▸ List.mem_map.2 ⟨_, List.getElem_mem hlt, rfl⟩, findU_first hlt he HA.out⟩)
        rw [he, Hnb.out] at ck
        clear he
        go_wp2_with fail
        go_ret
        exact ⟨⟨_, rfl, HM.out⟩, rfl⟩
      · have hne : ((toB us[k].name).toList == nb.toList) = false := by rw [← Hnb.out, beq_nm]; exact decide_eq_false he
        have HB := Lib.hid (show ∀ j (hj : j < us.length), j < k + 1 → us[j].name ≠ n from fun j hj hjk => by
          rcases Nat.lt_or_ge j k with h | h
          · exact HA.out j hj h
          · obtain rfl : j = k := by omega
            exact he)
        clear he
        generalize toB us[k].name = l at *
        go_wp2_with fail
        go_roundw
        case rel => exact ⟨k + 1, by omega, by go_num, by simp, HB⟩
        case measure => simp [intOf]; omega
    · have HM := Lib.hid (show FindIs us n (-1) from .inl ⟨rfl, fun hs => by
        obtain ⟨u, hu, e⟩ := mem_names.1 hs
        obtain ⟨j, hj, rfl⟩ := List.getElem_of_mem hu
        exact HA.out j hj (by omega) e⟩)
      go_wp2_with fail
      go_ret
      exact ⟨⟨_, rfl, HM.out⟩, rfl⟩
end Go.Proofs.Ytnjabanjgckeoaa
