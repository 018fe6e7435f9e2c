/- Units of some names; what stops, starts and is gone, by the document. -/
import Derived.Test.YtnjabanjgckeoaaJ19
namespace Go.Proofs.Ytnjabanjgckeoaa
section
open Go.RowKit
open Go.ChangeMaps (setBlock)
set_option linter.unusedVariables false
set_option linter.unusedSimpArgs false
set_option maxRecDepth 100000

def nmU (n : Nm) : GU := ⟨n, [], [], [], [], [], [], 0⟩
def nmV (n : Nm) : UV := ⟨n, .slice none 0 0, .slice none 0 0, .slice none 0 0, .slice none 0 0, .slice none 0 0, .slice none 0 0, 0⟩
theorem nmV_is (w : World) (n : Nm) : UVIs w (nmV n) (nmU n) := ⟨rfl, rfl, sts_nil w, sts_nil w, sts_nil w, sts_nil w, sts_nil w, sts_nil w⟩
theorem nmV_one (w : World) (n : Nm) : ∀ v ∈ (nmV n).cells, v.oneCell' = true := (nmV_is w n).one
set_option maxHeartbeats 8000000 in
theorem named_any (w : World) {v : Value} {ls : List Nm} (h : Sts w v ls) (hl : ls.length ≤ 1000) : Calls Try.prog 13 #[v] w fun e w' => ∃ v', e = .returned v' ∧ Own w w' [⟨62, 8, v', ls.length, flatU (ls.map nmV)⟩] := by
  obtain ⟨i0, z0, hi, hz0, hz1, hz2, hz3⟩ := info_dunit_ex
  have HZ3 := Lib.hid hz3
  clear hz3
  have H := Lib.hid (fun (W : World) (hb : Below w.heap.size w W) => h.later hb)
  obtain ⟨a, c, rfl, _, _, _⟩ := h
  have hlz : (ls.length : Int) ≤ 1000 := by omega
  go_enter Try.func13, Try.ntmps13
  go_wp2_with fail
  go_loopw [3, 9] (fun s3 s9 wr => ∃ k : Nat, k ≤ ls.length ∧ s9 = .int .i64 k ∧ Own w wr [⟨62, 8, s3, k, flatU ((ls.map nmV).take k)⟩]) (fun _ s9 _ => ls.length - (intOf s9).toNat)
  case atStart => exact ⟨0, Nat.zero_le _, rfl, (Own.start w).made 62 8 #[] 0 rfl (by unfold maxLen; omega)⟩
  case round =>
    obtain ⟨k, hk, rfl, hO⟩ := hrel
    obtain ⟨a3, c3, hv3, _, _⟩ := Own.sized (h := hO)
    subst hv3
    by_cases hlt : k < ls.length
    · have hkx : k < (ls.map nmV).length := by rw [List.length_map]; exact hlt
      obtain ⟨_, _, e3, _, _, h4⟩ := H.out wr hO.below
      injection e3 with e3 _ e33
      subst e33
      obtain ⟨b, o, e4, _, hc⟩ := h4 (by omega)
      subst e3
      subst e4
      have ck := hc k hlt
      have Hmore := Lib.hid (flatU_more (ls.map nmV) hkx)
      have hgx : (ls.map nmV)[k] = nmV ls[k] := by simp
      rw [hgx] at Hmore
      obtain ⟨nm, hnm⟩ : ∃ nm, ls[k] = nm := ⟨_, rfl⟩
      rw [hnm] at ck Hmore
      have Hone := Lib.hid (nmV_one w nm)
      unfold nmV UV.cells at Hone
      have Hcs := Lib.hid (show (nmV nm).cells = [.string (toB nm), .slice none 0 0, .slice none 0 0, .slice none 0 0, .slice none 0 0, .slice none 0 0, .slice none 0 0, .int .i64 0] from rfl)
      rw [Hcs.out] at Hmore
      have HO := Lib.hid hO
      have hklt : (k : Int) < (ls.length : Int) := by omega
      clear hc h4 hO hnm hgx
      generalize toB nm = nb at *
      have Hb1 := Lib.hid (show k + 1 ≤ maxLen from by unfold maxLen; omega)
      have Hb2 := Lib.hid (show (k + 1) * 168 ≤ 140737488355328 from by omega)
      have HO5 := Lib.hid (HO.out.alloc (.cells #[.string nb, .slice none 0 0, .slice none 0 0, .slice none 0 0, .slice none 0 0, .slice none 0 0, .slice none 0 0, .int .i64 0] 62))
      have Hsrc := Lib.hid (src_cells wr [.string nb, .slice none 0 0, .slice none 0 0, .slice none 0 0, .slice none 0 0, .slice none 0 0, .slice none 0 0, .int .i64 0] 62 Hone.out)
      go_wp2_with (at_builtin; refine wpList_append_src rfl (.tmp 13) (.tmp 16) 33 rfl (.slice a3 k c3) k (flatU ((ls.map nmV).take k)) (.slice (some ⟨wr.heap.size, 0, none⟩) 1 1) 1 [.string nb, .slice none 0 0, .slice none 0 0, .slice none 0 0, .slice none 0 0, .slice none 0 0, .slice none 0 0, .int .i64 0] rfl rfl HO5.out i0 z0 168 Try.underlying33 hi hz0 hz1 hz2 HZ3.out (by decide) Hsrc.out rfl Hb1.out Hb2.out ?_)
      intro v7 w7 hO7
      obtain ⟨a8, c8, hv8, _, _⟩ := Own.sized (h := hO7)
      subst hv8
      rw [← Hmore.out] at hO7
      have HO7 := Lib.hid hO7
      clear hO7
      go_wp2_with fail
      go_roundw
      case rel => exact ⟨k + 1, by omega, by go_num, HO7.out⟩
      case measure => simp [intOf]; omega
    · obtain rfl : k = ls.length := by omega
      have HD := Lib.hid (show Own w wr [⟨62, 8, .slice a3 ls.length c3, ls.length, flatU (ls.map nmV)⟩] from by
        have e : (ls.map nmV).take ls.length = ls.map nmV := List.take_of_length_le (by rw [List.length_map]; omega)
        rw [e] at hO; exact hO)
      clear hO
      go_wp2_with fail
      go_ret
      exact ⟨_, rfl, HD.out⟩
theorem Units.onesJ {w : World} {xs : List UV} {us : List GU} (h : Units w xs us) : ∀ v ∈ flatU xs, Value.oneCell' v = true := by
  induction h with
  | nil => intro v hv; cases hv
  | cons h1 _ ih =>
    intro v hv
    unfold flatU at hv ih
    rw [List.map_cons, List.flatten_cons] at hv
    rcases List.mem_append.1 hv with hv | hv
    · exact h1.one v hv
    · exact ih v hv
theorem flatU_getJ {xs : List UV} {j : Nat} {u : Value} (h : (flatU xs)[j]? = some u) : ∃ i, ∃ hi : i < xs.length, i * 8 ≤ j ∧ xs[i].cells[j - i * 8]? = some u := by
  have hj : j < (flatU xs).length := (List.getElem?_eq_some_iff.1 h).1
  rw [flatU_len] at hj
  refine ⟨j / 8, by omega, by omega, ?_⟩
  rw [← flatU_at xs (j / 8) (by omega), List.getElem?_take_of_lt (by omega), List.getElem?_drop, show j / 8 * 8 + (j - j / 8 * 8) = j from by omega]
  exact h
theorem src_du {w : World} {ad : Addr} {c : Nat} {us : List GU} (h : DU w (.slice (some ad) us.length c) us) : ∃ xs, Units w xs us ∧ Src w (.slice (some ad) us.length c) us.length (flatU xs) := by
  obtain ⟨a', c', xs, e, _, hU, hR⟩ := h
  injection e with e1 _ e3
  subst e1 e3
  refine ⟨xs, hU, .inr ⟨ad, c, rfl, fun j u hj => ?_, hU.onesJ⟩⟩
  obtain ⟨i, hi, hle, hc⟩ := flatU_getJ hj
  obtain ⟨b, o, e, hr⟩ := hR i hi
  injection e with e
  subst e
  have := hr _ _ hc
  rw [Addr.add_mid]
  rw [show o + j = o + i * 8 + (j - i * 8) from by omega]
  exact this
theorem units_named (w : World) : ∀ (ls : List Nm) {xs : List UV} {us : List GU}, Units w xs us → Units w (ls.map nmV ++ xs) (ls.map nmU ++ us)
  | [], _, _, h => h
  | n :: ls, _, _, h => .cons (nmV_is w n) (units_named w ls h)
theorem flatU_app (xs ys : List UV) : flatU (xs ++ ys) = flatU xs ++ flatU ys := by
  unfold flatU
  rw [List.map_append, List.flatten_append]
theorem named_mem {ls : List Nm} {us : List GU} {x : Nm} (h : x ∈ ls) : x ∈ sortN (namesU (ls.map nmU ++ us)) := by
  refine mem_sortN.2 (mem_names.2 ⟨nmU x, List.mem_append_left _ (List.mem_map.2 ⟨x, h, rfl⟩), rfl⟩)
end
section
open Go.RowKit
set_option linter.unusedVariables false
set_option linter.unusedSimpArgs false

theorem compact_strict {zs : List Nm} (h : InOrder zs) : (Lib.compact zs).Pairwise fun a b => a < b := by
  unfold Lib.compact Lib.compactUpTo
  rw [List.pairwise_map]
  refine (List.Pairwise.filter _ List.pairwise_lt_range).imp_of_mem fun {a b} ha hb hab => ?_
  obtain ⟨hb1, hb2⟩ := List.mem_filter.1 hb
  have hbl := List.mem_range.1 hb1
  have e : ∀ i (hi : i < zs.length), zs.toArray[i]! = zs[i] := fun i hi => by simp [hi]
  unfold Lib.keeps at hb2
  have hb0 : b ≠ 0 := by omega
  have hne : zs[b - 1]'(by omega) ≠ zs[b] := by
    simp only [Bool.or_eq_true, beq_iff_eq, hb0, false_or, bne_iff_ne, decide_eq_true_eq] at hb2
    rw [e (b - 1) (by omega), e b hbl] at hb2
    exact fun e => hb2 (by first | exact e.symm | exact e)
  rw [e a (by omega), e b hbl]
  have h1 := order_at h (i := a) (j := b - 1) (by omega) (by omega) (by omega)
  have h2 := order_at h (i := b - 1) (j := b) (by omega) hbl (by omega)
  exact Std.lt_of_le_of_lt h1 (Std.lt_of_le_of_ne h2 hne)
theorem mem_compact {zs : List Nm} {x : Nm} : x ∈ Lib.compact zs ↔ x ∈ zs := by
  unfold Lib.compact Lib.compactUpTo
  have e : ∀ i (hi : i < zs.length), zs.toArray[i]! = zs[i] := fun i hi => by simp [hi]
  rw [List.mem_map]
  constructor
  · rintro ⟨j, hj, rfl⟩
    have hl := List.mem_range.1 (List.mem_filter.1 hj).1
    rw [e j hl]; exact List.getElem_mem hl
  · intro hx
    obtain ⟨j, hj, rfl⟩ := List.getElem_of_mem hx
    induction j with
    | zero => exact ⟨0, List.mem_filter.2 ⟨List.mem_range.2 hj, by simp [Lib.keeps]⟩, e 0 hj⟩
    | succ j ih =>
      by_cases hk : Lib.keeps zs.toArray (j + 1) = true
      · exact ⟨j + 1, List.mem_filter.2 ⟨List.mem_range.2 hj, hk⟩, e _ hj⟩
      · have hq : zs[j + 1] = zs[j] := by
          have hk' : Lib.keeps zs.toArray (j + 1) = false := by simpa using hk
          unfold Lib.keeps at hk'
          have h1 := e j (by omega)
          have h2 := e (j + 1) hj
          simp only [Nat.add_sub_cancel, h1, h2] at hk'
          simpa using hk'
        rw [hq]
        exact ih (by omega) (List.getElem_mem _)
theorem strict_order {l : List Nm} (h : l.Pairwise fun a b => a < b) : InOrder l ∧ l.Nodup :=
  ⟨h.imp fun {a b} hab => by unfold leN; exact decide_eq_true (List.le_of_lt hab), h.imp fun {a b} hab e => by rw [e] at hab; exact List.lt_irrefl _ hab⟩
def addG (us : List GU) (run out : List Nm) (n : Nm) : List Nm := if decide (n ∈ run) && !decide (n ∈ namesU us) && !decide (n ∈ out) then out ++ [n] else out
def goneF (us : List GU) (run N : List Nm) (k : Nat) : List Nm := (N.take k).foldl (addG us run) []
theorem goneF_succ {us : List GU} {run N : List Nm} {k : Nat} (hk : k < N.length) : goneF us run N (k + 1) = addG us run (goneF us run N k) N[k] := by
  unfold goneF
  rw [List.take_succ_eq_append_getElem hk, List.foldl_append]
  rfl
theorem goneF_is {us : List GU} {run N : List Nm} (hN : InOrder N) : ∀ k, k ≤ N.length → InOrder (goneF us run N k) ∧ (goneF us run N k).Nodup ∧ ∀ x, x ∈ goneF us run N k ↔ x ∈ N.take k ∧ x ∈ run ∧ x ∉ namesU us
  | 0, _ => by unfold goneF; exact ⟨List.Pairwise.nil, List.nodup_nil, fun x => by simp⟩
  | k + 1, h => by
    have hk : k < N.length := by omega
    obtain ⟨h1, h2, h3⟩ := goneF_is (us := us) (run := run) hN k (by omega)
    rw [goneF_succ hk, List.take_succ_eq_append_getElem hk]
    unfold addG
    split
    · rename_i hc
      simp only [Bool.and_eq_true, Bool.not_eq_true', decide_eq_false_iff_not, decide_eq_true_eq] at hc
      obtain ⟨⟨c1, c2⟩, c3⟩ := hc
      have hle : ∀ a ∈ goneF us run N k, leN a N[k] = true := fun a ha => by
        obtain ⟨q, hq, rfl⟩ := List.getElem_of_mem ((h3 a).1 ha).1
        rw [List.length_take] at hq
        rw [List.getElem_take]
        unfold leN
        exact decide_eq_true (order_at hN (by omega) hk (by omega))
      refine ⟨List.pairwise_append.2 ⟨h1, List.pairwise_singleton .., fun a ha b hb => by rw [List.mem_singleton.1 hb]; exact hle a ha⟩, List.nodup_append.2 ⟨h2, by simp, fun a ha b hb => by rw [List.mem_singleton.1 hb]; exact fun e => c3 (e ▸ ha)⟩, fun x => ?_⟩
      rw [List.mem_append, List.mem_append, List.mem_singleton, h3 x]
      constructor
      · rintro (⟨h4, h5⟩ | rfl)
        · exact ⟨.inl h4, h5⟩
        · exact ⟨.inr rfl, c1, c2⟩
      · rintro ⟨h4 | rfl, h5⟩
        · exact .inl ⟨h4, h5⟩
        · exact .inr rfl
    · rename_i hc
      refine ⟨h1, h2, fun x => ?_⟩
      rw [List.mem_append, List.mem_singleton, h3 x]
      constructor
      · rintro ⟨h4, h5⟩
        exact ⟨.inl h4, h5⟩
      · rintro ⟨h4 | rfl, h5⟩
        · exact ⟨h4, h5⟩
        · have h6 : N[k] ∈ goneF us run N k := by
            have := hc
            simp only [Bool.and_eq_true, Bool.not_eq_true', decide_eq_false_iff_not, decide_eq_true_eq, not_and, Decidable.not_not] at this
            exact this h5
          exact (h3 _).1 h6
theorem gone_eq {us : List GU} {run N : List Nm} (hN : InOrder N) (hm : ∀ x ∈ run, x ∈ N) : goneF us run N N.length = goneN us run := by
  obtain ⟨h1, h2, h3⟩ := goneF_is (us := us) (run := run) hN N.length (Nat.le_refl _)
  obtain ⟨h4, h5⟩ := strict_order (compact_strict (sortN_order run))
  unfold goneN
  refine order_ext h1 (h4.filter _) h2 (h5.filter _) fun x => ?_
  rw [h3 x, List.take_length, List.mem_filter, mem_compact, mem_sortN]
  simp only [Bool.not_eq_true', decide_eq_false_iff_not, mem_sortN]
  exact ⟨fun h => h.2, fun h => ⟨hm x h.1, h⟩⟩
/-- What stops, by the document. -/
def stopF (lean run O : List Nm) (k : Nat) : List Nm := ((O.take k).filter fun n => decide (n ∈ lean) && decide (n ∈ run)).reverse
theorem stopF_succ {lean run O : List Nm} {k : Nat} (hk : k < O.length) : stopF lean run O (k + 1) = if decide (O[k] ∈ lean) && decide (O[k] ∈ run) then O[k] :: stopF lean run O k else stopF lean run O k := by
  unfold stopF
  rw [List.take_succ_eq_append_getElem hk, List.filter_append, List.reverse_append]
  by_cases h : (decide (O[k] ∈ lean) && decide (O[k] ∈ run)) = true
  · simp [h]
  · simp [h]
theorem stop_eq {us : List GU} {lean run hit l : List Nm} (hE : errU us = 0) (hl : ∀ n, n ∈ lean ↔ n ∈ namesU us ∧ LeanR us hit n) (hJ : Just l (LeanR us hit)) : stopF lean run (ordU us) (ordU us).length = (stopN us run l).reverse := by
  unfold stopF stopN pick
  rw [List.take_length, List.filter_filter]
  congr 1
  refine List.filter_congr fun n hn => ?_
  have h1 : n ∈ lean ↔ n ∈ l := by
    rw [hl, hJ.mem]
    exact ⟨fun h => h.2, fun h => ⟨h.there, h⟩⟩
  by_cases h2 : n ∈ l <;> by_cases h3 : n ∈ run <;> simp [h1, h2, h3]
def startF (stop O : List Nm) (k : Nat) : List Nm := pick (O.take k) stop
theorem start_eq (us2 : List GU) (s : List Nm) : startF s.reverse (ordU us2) (ordU us2).length = pick (ordU us2) s := by
  unfold startF pick
  rw [List.take_length]
  exact List.filter_congr fun n _ => by simp
end
end Go.Proofs.Ytnjabanjgckeoaa
