/- A graph that is made; Order, Behind, Get. -/
import Derived.Test.YtnjabanjgckeoaaG9
namespace Go.Proofs.Ytnjabanjgckeoaa
open Go.RowKit
open Go.ChangeMaps (setBlock)
set_option linter.unusedVariables false
set_option linter.unusedSimpArgs false
set_option maxRecDepth 100000

/-- A graph of these units, placed in this order. -/
structure GAt (w : World) (g : Nat) (us : List GU) (ord : List Nm) : Prop where
  uni : ∃ bu xs, UsAt w g bu xs us
  beh : ∃ bb, BeAt w g bb (namesU us) (aheadU us)
  at2 : ∃ vo, w.cell? ⟨g, 2, none⟩ = some vo ∧ Sts w vo ord
  once : (namesU us).Nodup
  few : us.length ≤ 1000
  short : ∀ n ∈ namesU us, n.length ≤ 1000000
  bnd : ∀ u ∈ us, Bnd u
  olen : ord.length ≤ 1000
  perm : ord.Perm (namesU us)
  req : ∀ u ∈ us, ∀ y, (y ∈ u.re ∨ y ∈ u.pa) → y ∈ namesU us
theorem GAt.later {w w' : World} {g : Nat} {us : List GU} {ord : List Nm} (h : GAt w g us ord) (hb : Below w.heap.size w w') : GAt w' g us ord := by
  obtain ⟨bu, xs, h1⟩ := h.uni
  obtain ⟨bb, h2⟩ := h.beh
  obtain ⟨vo, h3, h4⟩ := h.at2
  exact { h with uni := ⟨bu, xs, h1.later hb⟩, beh := ⟨bb, h2.later hb⟩, at2 := ⟨vo, (hb.cell (p := ⟨g, 2, none⟩) (World.block_lt_of_cell? w ⟨g, 2, none⟩ h3)).trans h3, h4.later hb⟩ }
theorem GAt.names {w : World} {g : Nat} {us : List GU} {ord : List Nm} (h : GAt w g us ord) :
    Calls Try.prog 19 #[.pointer (some ⟨g, 0, none⟩)] w fun e w' => ∃ v, e = .returned v ∧ Own w w' [rowSs v (sortN (namesU us))] := by
  obtain ⟨bu, xs, h1⟩ := h.uni
  exact names_any h1 h.once h.few h.short
def pick (ord som : List Nm) : List Nm := ord.filter fun n => decide (n ∈ som)
theorem pick_take (ord som : List Nm) (k : Nat) (hk : k < ord.length) : pick (ord.take (k + 1)) som = pick (ord.take k) som ++ if ord[k] ∈ som then [ord[k]] else [] := by
  unfold pick
  rw [List.take_succ_eq_append_getElem hk, List.filter_append]
  by_cases h : ord[k] ∈ som <;> simp [h]
theorem pick_len (ord som : List Nm) : (pick ord som).length ≤ ord.length := List.length_filter_le _ _
set_option maxHeartbeats 4000000 in
theorem GAt.order {w : World} {g : Nat} {us : List GU} {ord som : List Nm} {v : Value} (h : GAt w g us ord) (hv : Sts w v som) :
    Calls Try.prog 27 #[.pointer (some ⟨g, 0, none⟩), v] w fun e w' => ∃ v', e = .returned v' ∧ Own w w' [rowSs v' (pick ord som)] := by
  obtain ⟨i0, hi, hz0, hz1, hz2⟩ := infoS_ex
  obtain ⟨vo, c2, hso⟩ := h.at2
  have ho := Lib.hid h.olen
  have hon : (ord.length : Int) ≤ 1000 := by have := h.olen; omega
  obtain ⟨av, nv, cv, rfl⟩ := hv.shape
  obtain ⟨ao, co, hvo, h1, h2, h3⟩ := id hso
  subst hvo
  have HS := Lib.hid hso
  have HV := Lib.hid hv
  obtain ⟨no, hno⟩ : ∃ no, ord.length = no := ⟨_, rfl⟩
  rw [hno] at hon c2
  have Hno := Lib.hid hno
  have H3 := Lib.hid (fun (W : World) (hb : Below w.heap.size w W) => hso.later hb)
  clear h h1 h2 h3 hso hv hno
  go_enter Try.func27, Try.ntmps27
  go_wp2_with fail
  go_loopw [5, 13] (fun s5 s13 wr => ∃ k : Nat, k ≤ no ∧ s13 = .int .i64 k ∧ Own w wr [rowSs s5 (pick (ord.take k) som)]) (fun _ s13 _ => no - (intOf s13).toNat)
  case atStart => exact ⟨0, Nat.zero_le _, rfl, (Own.start w).nil _ _⟩
  case round =>
    obtain ⟨k, hk, rfl, hO⟩ := hrel
    obtain ⟨a4, n4, c4, hv4⟩ := hO.sts.shape
    have hv4' : u5 = .slice a4 n4 c4 := hv4
    subst hv4'
    by_cases hlt : k < no
    · have hlo : k < ord.length := by rw [Hno.out]; exact hlt
      obtain ⟨a', c', e, _, _, h4⟩ := H3.out wr hO.below
      injection e with e1 _ e3
      subst e1 e3
      obtain ⟨b, o, rfl, hb, hc⟩ := h4 (by omega)
      have ck := hc k hlo
      have kc := contains_any (.slice av nv cv) som ord[k] wr (HV.out.later hO.below)
      have hp := pick_take ord som k hlo
      have hll : (pick (ord.take k) som).length ≤ 1000 := by
        have := pick_len (ord.take k) som
        have h9 := ho.out
        rw [List.length_take] at this
        omega
      have HO := Lib.hid hO
      have HO4 := Lib.hid (hO.alloc (.cells #[.string (toB ord[k])] 9))
      have Hsrc := Lib.hid (src_one wr (.string (toB ord[k])) 9 rfl)
      have Hb1 := Lib.hid (show (pick (ord.take k) som).length + 1 ≤ maxLen from by unfold maxLen; omega)
      have Hb2 := Lib.hid (show ((pick (ord.take k) som).length + 1) * 16 ≤ 140737488355328 from by omega)
      by_cases hx : ord[k] ∈ som
      · rw [if_pos hx] at hp
        rw [decide_eq_true hx] at kc
        have Hp := Lib.hid hp
        clear hO h4 hc hp hll hx hv4
        generalize ord[k] = x at *
        go_wp2_with (first
          | (at_builtin; refine wpList_append_src rfl (.tmp 20) (.tmp 22) 23 rfl (.slice a4 n4 c4) (pick (ord.take k) som).length (strs (pick (ord.take k) som)) (.slice (some ⟨wr.heap.size, 0, none⟩) 1 1) 1 [.string (toB x)] rfl rfl HO4.out i0 (.string ⟨#[]⟩) 16 Try.underlying23 hi hz0 hz1 hz2 rfl (by decide) Hsrc.out (by simp) Hb1.out Hb2.out ?_)
          | (go_at_call 25; refine kc.mono ?_; rintro e w9 ⟨rfl, rfl⟩))
        intro v5 w5 hO5
        obtain ⟨a6, c6, hv6, _, _⟩ := Own.sized (h := hO5)
        subst hv6
        have HO5 := Lib.hid (show Own w w5 [rowSs (.slice a6 ((pick (ord.take k) som).length + 1) c6) (pick (ord.take (k + 1)) som)] from by
          rw [Hp.out]
          show Own w w5 [⟨9, 1, _, (pick (ord.take k) som ++ [x]).length, strs (pick (ord.take k) som ++ [x])⟩]
          rw [List.length_append, show strs (pick (ord.take k) som ++ [x]) = strs (pick (ord.take k) som) ++ [.string (toB x)] from by simp [strs]]
          exact hO5)
        clear hO5
        go_wp2_with fail
        go_roundw
        case rel => exact ⟨k + 1, by omega, by go_num, HO5.out⟩
        case measure => simp [intOf]; omega
      · rw [if_neg hx, List.append_nil] at hp
        rw [decide_eq_false hx] at kc
        rw [← hp] at HO
        clear hO h4 hc hp hll hx hv4 HO4 Hsrc Hb1 Hb2
        generalize ord[k] = x at *
        go_wp2_with (go_at_call 25; refine kc.mono ?_; rintro e w9 ⟨rfl, rfl⟩)
        go_roundw
        case rel => exact ⟨k + 1, by omega, by go_num, HO.out⟩
        case measure => simp [intOf]; omega
    · obtain rfl : k = no := by omega
      have HO := Lib.hid (show Own w wr [rowSs (.slice a4 n4 c4) (pick ord som)] from by
        have := hO
        rwa [List.take_of_length_le (by rw [Hno.out]; exact Nat.le_refl _)] at this)
      clear hO hv4
      go_wp2_with fail
      go_ret
      exact ⟨_, rfl, HO.out⟩
end Go.Proofs.Ytnjabanjgckeoaa
