/- slices.DeleteFunc over a row of texts of the call's own. -/
import Derived.Test.YtnjabanjgckeoaaJ0
namespace Go.Proofs.Ytnjabanjgckeoaa
open Go.RowKit
open Go.ChangeMaps (setBlock)
set_option linter.unusedVariables false
set_option linter.unusedSimpArgs false
set_option maxRecDepth 100000

/-- Fewer of a row, of whatever cells. -/
theorem row_takeV {W0 : Base} {w : World} {L : List Rw} {e g n cap : Nat} {xs : List Value} (h : Own W0 w (⟨e, 1, .slice (some ⟨g, 0, none⟩) n cap, n, xs⟩ :: L)) (k : Nat) (hk : k ≤ n) : Own W0 w (⟨e, 1, .slice (some ⟨g, 0, none⟩) k cap, k, xs.take k⟩ :: L) := by
  have hown : w.ownsRow W0.world.heap.size e 1 (.slice (some ⟨g, 0, none⟩) n cap) n xs := h.head
  have hlen := h.len
  have hap := List.pairwise_cons.1 h.apart
  refine ⟨h.below, fun p hp => ?_, List.pairwise_cons.2 ⟨fun q hq => hap.1 q hq, hap.2⟩, h.maps, fun m hm p hp => ?_⟩
  · rcases List.mem_cons.1 hp with rfl | hp
    · refine ⟨by simp at hlen ⊢; omega, ?_⟩
      rcases hown.2 with ⟨hv, hn⟩ | ⟨g', cap', cur, hv, hg, hb, hn, hcap, hsz, htk⟩
      · cases hv
      · refine .inr ⟨g', cap', cur, ?_, hg, hb, by show k ≤ _; omega, hcap, hsz, ?_⟩
        · injection hv with e1 e2 e3
          show Value.slice _ _ _ = Value.slice _ _ _
          rw [e1, e3]
        · show List.take (k * 1) cur.toList = xs.take k
          rw [Nat.mul_one]
          rw [Nat.mul_one] at htk
          have e9 : cur.toList.take k = (cur.toList.take n).take k := by rw [List.take_take]; congr 1; omega
          rw [e9, htk]
    · exact h.rows p (List.mem_cons_of_mem _ hp)
  · rcases List.mem_cons.1 hp with rfl | hp
    · exact h.offmaps m hm (⟨e, 1, .slice (some ⟨g, 0, none⟩) n cap, n, xs⟩ : Rw) (List.mem_cons_self ..)
    · exact h.offmaps m hm p (List.mem_cons_of_mem _ hp)
theorem filter_take_succ (q : Nm → Bool) (ls : List Nm) (j : Nat) (hj : j < ls.length) : (ls.take (j + 1)).filter q = (ls.take j).filter q ++ if q ls[j] then [ls[j]] else [] := by
  rw [List.take_succ_eq_append_getElem hj, List.filter_append]
  cases h : q ls[j] <;> simp [h]
theorem set_split (l : List Nm) (i : Nat) (x : Nm) (hi : i < l.length) : (l.set i x).take (i + 1) = l.take i ++ [x] ∧ ∀ j, i < j → (l.set i x).drop j = l.drop j := by
  constructor
  · rw [List.take_succ_eq_append_getElem (by simpa using hi), List.take_set_of_le (Nat.le_refl i)]
    simp
  · intro j hj
    rw [List.drop_set_of_lt hj]
theorem strs_set (l : List Nm) (i : Nat) (x : Nm) : (strs l).set i (.string (toB x)) = strs (l.set i x) := by
  simp [strs]
set_option maxHeartbeats 8000000 in
theorem delF_row {W0 : Base} {w : World} {L : List Rw} {v : Value} {ls : List Nm} (h : Own W0 w (rowSs v ls :: L)) (hl : ls.length ≤ 1000000) (g : Nat) (lb : Array Value) (p : Nm → Bool) (eg : ∀ args w, (callFunc g args).run Try.prog w = .ok (.enter g args) w)
    (hp : ∀ W v' l', Own W0 W (rowSs v' l' :: L) → ∀ x, Calls Try.prog g (#[.string (toB x)] ++ lb) W fun e w' => e = .returned (.bool (p x)) ∧ Below W.heap.size W w') :
    Calls Try.prog 26 #[v, .func (.func g) #[] lb] w fun e w' => ∃ v', e = .returned v' ∧ Own W0 w' (rowSs v' (ls.filter fun x => !p x) :: L) := by
  have ki := index_lb g lb p eg v ls w h.sts (fun W x _ hb => hp W v ls (h.later hb) x)
  obtain ⟨a, n0, c, hv⟩ := h.sts.shape
  subst hv
  have H := Lib.hid h
  have HP := Lib.hid hp
  have hn0 : n0 = ls.length := by
    obtain ⟨a', c', e', _⟩ := h.sts
    injection e'
  subst hn0
  have hlz : (ls.length : Int) ≤ 1000000 := by omega
  clear h hp
  rcases idxF_cases p ls with ⟨_, e2, e3⟩ | ⟨k, hk, _, e2, e3, e4⟩
  · rw [e2] at ki
    have HE := Lib.hid (show (ls.filter fun x => !p x) = ls from List.filter_eq_self.2 fun x hx => by rw [e3 x hx]; rfl)
    clear e2 e3
    go_enter Try.func26, Try.ntmps26
    go_wp2_with (go_at_call 20; refine ki.mono ?_; rintro e w1 ⟨rfl, hb1⟩; have HB := Lib.hid hb1; clear hb1)
    go_ret
    exact ⟨_, rfl, by rw [HE.out]; exact H.out.later HB.out⟩
  · rw [e2] at ki
    obtain ⟨b, cap, hf, hf1, hf2, hf3, hf4⟩ := H.out.form (by omega)
    injection hf with hf _ hfc
    subst hf hfc
    have HE := Lib.hid (show (ls.take (k + 1)).filter (fun x => !p x) = ls.take k from by
      rw [filter_take_succ _ _ _ hk, e3]
      rw [List.filter_eq_self.2 fun x hx => by
        obtain ⟨j, hj, rfl⟩ := List.getElem_of_mem hx
        rw [List.length_take] at hj
        rw [List.getElem_take, e4 j (by omega) (by omega)]; rfl]
      simp)
    have hkz : (k : Int) < (ls.length : Int) := by omega
    have hkn : ((k : Int) == -1) = false := beq_eq_false_iff_ne.2 (by omega)
    have Hk := Lib.hid hk
    have HF := Lib.hid (show ls.length ≤ c ∧ c ≤ maxLen from ⟨hf3, hf4⟩)
    have hcz : (ls.length : Int) ≤ (c : Int) ∧ (c : Int) ≤ 9223372036854775807 := by unfold maxLen at hf4; omega
    clear e2 e3 e4 hk hf1 hf2 hf3 hf4
    go_enter Try.func26, Try.ntmps26
    go_upto_region 4 with (go_at_call 20; refine ki.mono ?_; rintro e w1 ⟨rfl, hb1⟩; have H1 := Lib.hid (H.out.later hb1); clear hb1)
    go_wp2_with fail
    go_loopw [5, 6] (fun s5 s6 wr => ∃ (i j : Nat) (l' : List Nm), i < j ∧ j ≤ ls.length ∧ s5 = .int .i64 i ∧ s6 = .int .i64 j ∧ Hid (Own W0 wr (rowSs (.slice (some ⟨b, 0, none⟩) l'.length c) l' :: L)) ∧ Hid (l'.length = ls.length ∧ l'.take i = (ls.take j).filter (fun x => !p x) ∧ l'.drop j = ls.drop j)) (fun _ s6 _ => ls.length - (intOf s6).toNat)
    case atStart => exact ⟨k, k + 1, ls, by omega, by have := Hk.out; omega, rfl, by go_num, H1.out, rfl, by rw [HE.out], rfl⟩
    case round =>
      obtain ⟨i, j, l', hij, hj, rfl, rfl, HO, HL⟩ := hrel
      obtain ⟨hl1, hl2, hl3⟩ := HL.out
      have hO : Own W0 wr (⟨9, 1, .slice (some ⟨b, 0, none⟩) ls.length c, ls.length, strs l'⟩ :: L) := by
        have := HO.out
        rw [← hl1]
        exact this
      by_cases hlt : j < ls.length
      · have hjl : j < l'.length := by omega
        have hx : l'[j] = ls[j] := by
          have e1 := List.drop_eq_getElem_cons hjl
          have e2 := List.drop_eq_getElem_cons hlt
          rw [hl3, e2] at e1
          injection e1 with e1 _
          exact e1.symm
        have cj : wr.cell? ⟨b, j, none⟩ = some (.string (toB ls[j])) := by
          rw [hO.cell j (by omega), strs_at l' j hjl, hx]
        have kc := HP.out wr (.slice (some ⟨b, 0, none⟩) l'.length c) l' HO.out ls[j]
        have HOr := Lib.hid hO
        have hjz : (j : Int) < (ls.length : Int) := by omega
        have hiz : (i : Int) < (ls.length : Int) := by omega
        have HFs := Lib.hid (filter_take_succ (fun x => !p x) ls j hlt)
        have hdr : l'.drop (j + 1) = ls.drop (j + 1) := by
          have e1 := List.drop_eq_getElem_cons hjl
          have e2 := List.drop_eq_getElem_cons hlt
          rw [hl3, e2] at e1
          injection e1 with _ e1
          exact e1.symm
        have HDr := Lib.hid hdr
        have HL1 := Lib.hid hl1
        have HL2 := Lib.hid hl2
        have Hij := Lib.hid hij
        have HSet := Lib.hid (set_split l' i ls[j] (by omega))
        clear hO hl1 hl2 hl3 hx hdr
        generalize hxx : ls[j] = x at *
        clear hxx
        have Hxs := Lib.hid (strs_set l' i x)
        cases hpx : p x with
        | true =>
          rw [hpx] at kc HFs
          have HR := Lib.hid (fun w2 (hb : Below wr.heap.size wr w2) => HO.out.later hb)
          have HN := Lib.hid (show l'.length = ls.length ∧ l'.take i = (ls.take (j + 1)).filter (fun x => !p x) ∧ l'.drop (j + 1) = ls.drop (j + 1) from ⟨HL1.out, by rw [HFs.out, HL2.out]; simp, HDr.out⟩)
          clear hpx
          generalize toB x = xb at *
          go_wp2_with (go_at_fn g; refine kc.mono ?_; rintro e w2 ⟨rfl, hb2⟩; have HR2 := Lib.hid (HR.out w2 hb2); clear hb2)
          go_roundw
          case rel => exact ⟨i, j + 1, l', by omega, by omega, rfl, by go_num, HR2.out, HN.out⟩
          case measure => simp [intOf]; omega
        | false =>
          rw [hpx] at kc HFs
          have HN := Lib.hid (show (l'.set i x).length = ls.length ∧ (l'.set i x).take (i + 1) = (ls.take (j + 1)).filter (fun x => !p x) ∧ (l'.set i x).drop (j + 1) = ls.drop (j + 1) from ⟨by rw [List.length_set]; exact HL1.out, by rw [HSet.out.1, HFs.out, HL2.out]; simp, by rw [HSet.out.2 _ (by have := Hij.out; omega)]; exact HDr.out⟩)
          clear hpx
          generalize hxb : toB x = xb at *
          have HXB := Lib.hid hxb
          clear hxb
          have HR := Lib.hid (fun w2 (hb : Below wr.heap.size wr w2) => HOr.out.later hb)
          go_wp2_with (go_at_fn g; refine kc.mono ?_; rintro e w2 ⟨rfl, hb2⟩; have HR2 := Lib.hid (HR.out w2 hb2); have ci2 := (HR.out w2 hb2).there 0 ls.length (by omega) i (by omega); rw [Nat.zero_add] at ci2; obtain ⟨ci3, fi3⟩ := ci2; obtain ⟨vi, ci4⟩ := Option.isSome_iff_exists.1 ci3; clear hb2 ci3)
          have HR3 : Hid (Own W0 (w2.setCell ⟨b, i, none⟩ (.string xb)) (rowSs (.slice (some ⟨b, 0, none⟩) (l'.set i x).length c) (l'.set i x) :: L)) := by
            have h1 := HR2.out.set i (.string xb)
            rw [Hxs.out] at h1
            show Own W0 _ (⟨9, 1, .slice (some ⟨b, 0, none⟩) (l'.set i x).length c, (l'.set i x).length, strs (l'.set i x)⟩ :: L)
            rw [HN.out.1]
            exact h1
          clear ci4 fi3
          go_roundw
          case rel => exact ⟨i + 1, j + 1, l'.set i x, by omega, by omega, by go_num, by go_num, HR3.out, HN.out⟩
          case measure => simp [intOf]; omega
      · obtain rfl : j = ls.length := by omega
        have hfl : (ls.filter fun x => !p x).length = i := by
          rw [List.take_length] at hl2
          rw [← hl2, List.length_take]; omega
        have hft : (strs l').take i = strs (ls.filter fun x => !p x) := by
          rw [List.take_length] at hl2
          rw [← hl2]; simp [strs]
        have hcl : ∀ ty, (Builtin.clear_ #[23] ty #[.slice (some ⟨b, i, none⟩) (ls.length - i) (c - i)]).run Try.prog wr = .ok (.tuple #[]) (wr.setCells b i (List.replicate (ls.length - i) (.string ⟨#[]⟩))) := fun ty =>
          Lib.run_clear_slice wr 23 9 ty (.string ⟨#[]⟩) Try.underlying23 (fun w => by rw [Try.zeroValue9]) rfl rfl b i (ls.length - i) (c - i) (by omega) (fun q hq => by
            rw [hO.cell (i + q) (by omega), List.getElem?_eq_getElem (by rw [strs_length]; omega)]; rfl) (fun q hq => hO.free _)
        have h9 : Own W0 (wr.setCells b i (List.replicate (ls.length - i) (.string ⟨#[]⟩))) (rowSs (.slice (some ⟨b, 0, none⟩) i c) (ls.filter fun x => !p x) :: L) := by
          have h1 := row_takeV (hO.setCells (List.replicate (ls.length - i) (.string ⟨#[]⟩)) i) i (by omega)
          have e1 : (splice (strs l') i (List.replicate (ls.length - i) (.string ⟨#[]⟩))).take i = strs (ls.filter fun x => !p x) := by
            rw [← hft]
            apply List.ext_getElem?
            intro q
            by_cases hq : q < i
            · rw [List.getElem?_take_of_lt hq, List.getElem?_take_of_lt hq, splice_get _ _ _ _ (by simp [strs]; omega), if_neg (by omega)]
            · rw [List.getElem?_take_eq_none (by omega), List.getElem?_take_eq_none (by omega)]
          rw [e1] at h1
          show Own W0 _ (⟨9, 1, _, (ls.filter fun x => !p x).length, _⟩ :: L)
          rw [hfl]
          exact h1
        have H9 := Lib.hid h9
        have hiz : (i : Int) < (ls.length : Int) := by omega
        have hiN : i < ls.length := hij
        clear hO hl1 hl2 hl3 hfl hft h9 hlt hj
        go_wp2_with fail
        go_ret
        exact ⟨_, rfl, H9.out⟩
end Go.Proofs.Ytnjabanjgckeoaa
