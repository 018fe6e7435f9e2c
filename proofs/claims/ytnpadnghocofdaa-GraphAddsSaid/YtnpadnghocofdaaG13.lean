/- Pull: some, and all that they require. -/
import Derived.Test.YtnpadnghocofdaaG12
namespace Go.Proofs.Ytnpadnghocofdaa
open Go.RowKit
open Go.ChangeMaps (setBlock)
set_option linter.unusedVariables false
set_option linter.unusedSimpArgs false
set_option maxRecDepth 100000

structure PlInv (us : List GU) (som l : List Nm) (k : Nat) : Prop where
  once : l.Nodup
  sub : ∀ x ∈ l, PullR us som x
  there : ∀ x ∈ l, x ∈ namesU us
  base : ∀ n ∈ namesU us, n ∈ som → n ∈ l
  cl : ∀ j (hj : j < l.length), j < k → ∀ y ∈ (findU us l[j]).re, y ∈ l
theorem PlInv.len {us : List GU} {som l : List Nm} {k : Nat} (h : PlInv us som l k) (hd : (namesU us).Nodup) : l.length ≤ us.length := by
  have := len_of_sub h.once hd h.there
  simpa [namesU] using this
theorem PlInv.start {us : List GU} {ord som : List Nm} (hp : ord.Perm (namesU us)) (hd : (namesU us).Nodup) : PlInv us som (pick ord som) 0 := by
  refine ⟨((hp.nodup_iff).2 hd).filter _, fun x hx => ?_, fun x hx => ?_, fun n hn hs => ?_, fun j hj h => absurd h (Nat.not_lt_zero _)⟩
  · have := List.mem_filter.1 hx
    exact .base (hp.mem_iff.1 this.1) (by simpa using this.2)
  · exact hp.mem_iff.1 (List.mem_filter.1 hx).1
  · exact List.mem_filter.2 ⟨hp.mem_iff.2 hn, by simpa using hs⟩
theorem PlInv.add {us : List GU} {som l : List Nm} {k : Nat} (h : PlInv us som l k) (hd : (namesU us).Nodup) (hreq : ∀ u ∈ us, ∀ y, (y ∈ u.re ∨ y ∈ u.pa) → y ∈ namesU us) {x y : Nm} (hk : l[k]? = some x) (hy : y ∈ (findU us x).re) (hn : y ∉ l) : PlInv us som (l ++ [y]) k := by
  obtain ⟨hkl, hke⟩ := List.getElem?_eq_some_iff.1 hk
  have hxl : x ∈ l := hke ▸ List.getElem_mem hkl
  obtain ⟨hu1, hu2⟩ := findU_of hd (h.there x hxl)
  refine ⟨List.nodup_append.2 ⟨h.once, by simp, fun a ha b hb => ?_⟩, fun z hz => ?_, fun z hz => ?_, fun n h1 h2 => List.mem_append_left _ (h.base n h1 h2), fun j hj hjk z hz => ?_⟩
  · rw [List.mem_singleton.1 hb]
    exact fun e => hn (e ▸ ha)
  · rcases List.mem_append.1 hz with hz | hz
    · exact h.sub z hz
    · rw [List.mem_singleton.1 hz]
      exact .step hu1 hy (by rw [hu2]; exact h.sub x hxl)
  · rcases List.mem_append.1 hz with hz | hz
    · exact h.there z hz
    · rw [List.mem_singleton.1 hz]
      exact hreq _ hu1 y (.inl hy)
  · have hj' : j < l.length := by omega
    rw [List.getElem_append_left hj'] at hz
    exact List.mem_append_left _ (h.cl j hj' hjk z hz)
theorem PlInv.next {us : List GU} {som l : List Nm} {k : Nat} (h : PlInv us som l k) {x : Nm} (hk : l[k]? = some x) (hx : ∀ y ∈ (findU us x).re, y ∈ l) : PlInv us som l (k + 1) := by
  refine ⟨h.once, h.sub, h.there, h.base, fun j hj hjk y hy => ?_⟩
  by_cases e : j = k
  · subst e
    rw [List.getElem?_eq_getElem hj] at hk
    injection hk with hk
    exact hx y (hk ▸ hy)
  · exact h.cl j hj (by omega) y hy
theorem PlInv.fin {us : List GU} {som l : List Nm} (h : PlInv us som l l.length) (hd : (namesU us).Nodup) : Just (sortN l) (PullR us som) := by
  refine ⟨sortN_order l, sortN_nodup.2 h.once, fun n => ⟨fun hn => h.sub n (mem_sortN.1 hn), fun hn => mem_sortN.2 ?_⟩⟩
  induction hn with
  | base h1 h2 => exact h.base _ h1 h2
  | @step u x hu hx _ ih =>
    obtain ⟨j, hj, e⟩ := List.getElem_of_mem ih
    exact h.cl j hj hj x (by rw [e, findU_mem hd hu]; exact hx)
theorem field_re (n0 : ByteArray) (v1 v2 v3 v4 v5 v6 : Value) (rt : Int) (w : World) : (Instr.field 34 (.agg #[.string n0, v1, v2, v3, v4, v5, v6, .int .i64 rt]) 4).run Try.prog w = .ok v4 w := by kernel_rfl
set_option maxHeartbeats 8000000 in
theorem GAt.pull {w : World} {g : Nat} {us : List GU} {ord som : List Nm} {v : Value} (h : GAt w g us ord) (hv : Sts w v som) :
    Calls Try.prog 15 #[.pointer (some ⟨g, 0, none⟩), v] w fun e w' => ∃ v' l, e = .returned v' ∧ Own w w' [rowSs v' l] ∧ Just l (PullR us som) := by
  obtain ⟨i0, hi, hz0, hz1, hz2⟩ := infoS_ex
  have hord := h.order hv
  obtain ⟨bu, xs, hU⟩ := h.uni
  have HU := Lib.hid hU
  have HD := Lib.hid h.once
  have HN := Lib.hid h.few
  have HQ := Lib.hid h.req
  have HBn := Lib.hid h.bnd
  have H0 := Lib.hid (PlInv.start (som := som) h.perm h.once)
  have HW0 := Lib.hid (fun (W : World) (hb : Below w.heap.size w W) => (hU.later hb).cell)
  obtain ⟨av, nv, cv, rfl⟩ := hv.shape
  clear h hv hU
  go_enter Try.func15, Try.ntmps15
  go_wp2_with (go_at_call 12; refine hord.mono ?_; rintro e w1 ⟨v1, rfl, hO1⟩; have HO1 := Lib.hid hO1; clear hO1)
  go_loopw [5, 6] (fun s5 s6 wr => ∃ (k : Nat) (l : List Nm), k ≤ l.length ∧ s6 = .int .i64 k ∧ Own w wr [rowSs s5 l] ∧ PlInv us som l k) (fun _ s6 _ => 1001 - (intOf s6).toNat)
  case atStart => exact ⟨0, _, Nat.zero_le _, rfl, HO1.out, H0.out⟩
  case round =>
    obtain ⟨k, l, hkl, rfl, hO, hI⟩ := hrel
    have hll := hI.len HD.out
    have hlN := HN.out
    obtain ⟨a5, n5, c5, hv5⟩ := hO.sts.shape
    have hv5' : u5 = .slice a5 n5 c5 := hv5
    subst hv5'
    have hn5 : n5 = l.length := by
      obtain ⟨a', c', e', _⟩ := hO.sts
      injection e'
    by_cases hlt : k < l.length
    · subst hn5
      have hl1 : (k : Int) < (l.length : Int) := by omega
      have hk1000 : (k : Int) ≤ 1000 := by omega
      obtain ⟨x, hx⟩ : ∃ x, l[k]? = some x := ⟨_, List.getElem?_eq_getElem hlt⟩
      obtain ⟨fb, fc, hf, _⟩ := Own.form (h := (show Own w wr (⟨9, 1, .slice a5 l.length c5, l.length, strs l⟩ :: []) from hO)) (by omega)
      injection hf with hf1 _ hf3
      subst hf1 hf3
      have ck : wr.cell? ⟨fb, k, none⟩ = some (.string (toB x)) := by
        obtain ⟨h2, h3⟩ := List.getElem?_eq_some_iff.1 hx
        rw [Own.str hO k h2, h3]
      obtain ⟨xv, hxv, hl0⟩ := HU.out.lookup x
      have hlk := fun q => hl0 (wr.drewN q) (hO.drewN).below false
      simp only [Bool.false_eq_true, if_false] at hlk
      have hc := HW0.out _ hO.below
      have hxl : x ∈ l := by
        obtain ⟨h2, h3⟩ := List.getElem?_eq_some_iff.1 hx
        exact h3 ▸ List.getElem_mem h2
      have hrl : (findU us x).re.length ≤ 1000000 := (HBn.out _ (findU_of HD.out (hI.there x hxl)).1).b4
      have hfd := field_re (toB xv.name) xv.v1 xv.v2 xv.v3 xv.v4 xv.v5 xv.v6 xv.ret
      have hxc : xv.val = .agg #[.string (toB xv.name), xv.v1, xv.v2, xv.v3, xv.v4, xv.v5, xv.v6, .int .i64 xv.ret] := rfl
      rw [hxc] at hlk
      have HS4 := Lib.hid hxv.s4
      obtain ⟨ra, rc, hrv, _, _, _⟩ := id hxv.s4
      have HRl := Lib.hid hrl
      have hR0 : Hid (∃ (j : Nat) (l2 : List Nm), j ≤ (findU us x).re.length ∧ Value.int .i64 0 = .int .i64 j ∧ Own w wr [rowSs (.slice (some ⟨fb, 0, none⟩) l.length c5) l2] ∧ PlInv us som l2 k ∧ l2[k]? = some x ∧ ∀ i (hi : i < (findU us x).re.length), i < j → (findU us x).re[i] ∈ l2) := ⟨0, l, Nat.zero_le _, rfl, hO, hI, hx, fun i _ h => absurd h (Nat.not_lt_zero _)⟩
      clear hl0 hxv hxc hO hI hll hlN hv5 hkl hlt hx hxl hrl
      generalize toB x = xb at *
      generalize toB xv.name = xnb at *
      generalize xv.v1 = y1 at *
      generalize xv.v2 = y2 at *
      generalize xv.v3 = y3 at *
      generalize xv.v5 = y5 at *
      generalize xv.v6 = y6 at *
      generalize xv.ret = yr at *
      generalize hy4 : xv.v4 = y4 at *
      clear hy4
      generalize hre : (findU us x).re = re at *
      have HRE := Lib.hid hre
      clear hre
      subst hrv
      have hrn : (re.length : Int) ≤ 1000000 := by have := HRl.out; omega
      go_upto_region 5 with fail
      go_quiet (fail)
      go_wp2_with fail
      have hR1 : Hid (∃ (j : Nat) (l2 : List Nm), j ≤ re.length ∧ Value.int .i64 0 = .int .i64 j ∧ Own w (wr.drewN nq) [rowSs (.slice (some ⟨fb, 0, none⟩) l.length c5) l2] ∧ PlInv us som l2 k ∧ l2[k]? = some x ∧ ∀ i (hi : i < re.length), i < j → re[i] ∈ l2) := by
        obtain ⟨j, l2, q1, q2, q3, q4⟩ := hR0.out
        exact ⟨j, l2, q1, q2, q3.drewN, q4⟩
      obtain ⟨W8, hW8⟩ : ∃ W8 : World, W8 = wr.drewN nq := ⟨_, rfl⟩
      rw [← hW8] at hR1 ⊢
      clear hW8 hR0 ck hlk hc hfd
      go_loopw [5, 29] (fun s5 s29 wq => ∃ (j : Nat) (l2 : List Nm), j ≤ re.length ∧ s29 = .int .i64 j ∧ Own w wq [rowSs s5 l2] ∧ PlInv us som l2 k ∧ l2[k]? = some x ∧ ∀ i (hi : i < re.length), i < j → re[i] ∈ l2) (fun _ s _ => re.length - (intOf s).toNat)
      case atStart => exact hR1.out
      case round =>
        obtain ⟨j, l2, hj, rfl, hO, hI, hx, hdone⟩ := hrel
        have hll := hI.len HD.out
        have hlN := HN.out
        obtain ⟨fa, fc, hf, _, _⟩ := Own.sized (h := (show Own w wr (⟨9, 1, u5, l2.length, strs l2⟩ :: []) from hO))
        subst hf
        by_cases hlt : j < re.length
        · obtain ⟨a', c', e, _, _, h4⟩ := HS4.out.later hO.below
          injection e with e1 _ e3
          subst e1 e3
          obtain ⟨b, o, rfl, hb, hcl⟩ := h4 (by omega)
          have ck := hcl j hlt
          have kc := contains_any (.slice fa l2.length fc) l2 re[j] wr hO.sts
          have hmem : re[j] ∈ re := List.getElem_mem hlt
          have HO := Lib.hid hO
          have HO4 := Lib.hid (hO.alloc (.cells #[.string (toB re[j])] 9))
          have Hsrc := Lib.hid (src_one wr (.string (toB re[j])) 9 rfl)
          have Hb1 := Lib.hid (show l2.length + 1 ≤ maxLen from by unfold maxLen; omega)
          have Hb2 := Lib.hid (show (l2.length + 1) * 16 ≤ 140737488355328 from by omega)
          have Hall := Lib.hid (fun (l3 : List Nm) (h1 : ∀ y ∈ l2, y ∈ l3) (h2 : re[j] ∈ l3) i (hi : i < re.length) (hij : i < j + 1) => (show re[i] ∈ l3 from by
            rcases Nat.lt_or_ge i j with h | h
            · exact h1 _ (hdone i hi h)
            · obtain rfl : i = j := by omega
              exact h2))
          have HX := Lib.hid hx
          have HI := Lib.hid hI
          have Hmem := Lib.hid hmem
          have hjl : (j : Int) < (re.length : Int) := by omega
          by_cases hin : re[j] ∈ l2
          · rw [decide_eq_true hin] at kc
            have HA := Lib.hid (Hall.out l2 (fun y h => h) hin)
            clear hO hI hx hdone hll hlN h4 hcl hmem hin HO4 Hsrc Hb1 Hb2 Hall
            generalize re[j] = y at *
            clear hlt
            go_wp2_with (go_at_call 37; refine kc.mono ?_; rintro e w9 ⟨rfl, rfl⟩)
            go_roundw
            case rel => exact ⟨j + 1, l2, by omega, by go_num, HO.out, HI.out, HX.out, HA.out⟩
            case measure => simp [intOf]; omega
          · rw [decide_eq_false hin] at kc
            have HA := Lib.hid (Hall.out (l2 ++ [re[j]]) (fun y h => List.mem_append_left _ h) (List.mem_append_right _ (List.mem_singleton.2 rfl)))
            have HAdd := Lib.hid (hI.add HD.out HQ.out hx (by rw [HRE.out]; exact hmem) hin)
            clear hO hI hx hdone hll hlN h4 hcl hmem hin Hall
            generalize re[j] = y at *
            clear hlt
            generalize hyb : toB y = yb at kc ck HO4 Hsrc
            have HYB := Lib.hid hyb
            clear hyb
            go_wp2_with (first
              | (at_builtin; refine wpList_append_src rfl (.tmp 37) (.tmp 39) 30 rfl (.slice fa l2.length fc) l2.length (strs l2) (.slice (some ⟨wr.heap.size, 0, none⟩) 1 1) 1 [.string yb] rfl rfl HO4.out i0 (.string ⟨#[]⟩) 16 Try.underlying30 hi hz0 hz1 hz2 rfl (by decide) Hsrc.out (by simp) Hb1.out Hb2.out ?_)
              | (go_at_call 37; refine kc.mono ?_; rintro e w9 ⟨rfl, rfl⟩))
            intro v4 w4 hO4
            obtain ⟨a4, c4, hv4, _, _⟩ := Own.sized (h := hO4)
            subst hv4
            have HO5 := Lib.hid (show Own w w4 [rowSs (.slice a4 (l2.length + 1) c4) (l2 ++ [y])] from by
              show Own w w4 [⟨9, 1, _, (l2 ++ [y]).length, strs (l2 ++ [y])⟩]
              rw [List.length_append, show strs (l2 ++ [y]) = strs l2 ++ [.string yb] from by rw [← HYB.out]; simp [strs]]
              exact hO4)
            have HX2 := Lib.hid (show (l2 ++ [y])[k]? = some x from by
              rw [List.getElem?_append_left (List.getElem?_eq_some_iff.1 HX.out).1]; exact HX.out)
            clear hO4
            go_wp2_with fail
            go_roundw
            case rel => exact ⟨j + 1, l2 ++ [y], by omega, by go_num, HO5.out, HAdd.out, HX2.out, HA.out⟩
            case measure => simp [intOf]; omega
        · obtain rfl : j = re.length := by omega
          have hI2 : PlInv us som l2 (k + 1) := hI.next hx fun y hy => by
            rw [HRE.out] at hy
            obtain ⟨i, hi, e⟩ := List.getElem_of_mem hy
            exact e ▸ hdone i hi hi
          have hkl := (List.getElem?_eq_some_iff.1 hx).1
          have HR := Lib.hid (show k + 1 ≤ l2.length ∧ Own w wr [rowSs (.slice fa l2.length fc) l2] ∧ PlInv us som l2 (k + 1) from ⟨by omega, hO, hI2⟩)
          clear hO hI hI2 hx hdone hll hlN hkl hlt
          go_wp2_with fail
          go_roundw
          case rel => exact ⟨k + 1, l2, HR.out.1, by go_num, HR.out.2.1, HR.out.2.2⟩
          case measure => simp [intOf]; omega
    · obtain rfl : k = l.length := by omega
      subst hn5
      have hs := sortS_row hO (by omega)
      have HJ := Lib.hid (hI.fin HD.out)
      have hk9 : (l.length : Int) ≤ 1000 := by omega
      clear hO hI hll hlN hv5 hkl hlt
      go_wp2_with (go_at_call 40; refine hs.mono ?_; rintro e w3 ⟨rfl, hO3⟩; have HO3 := Lib.hid hO3; clear hO3)
      go_ret
      exact ⟨_, _, rfl, HO3.out, HJ.out⟩
end Go.Proofs.Ytnpadnghocofdaa
