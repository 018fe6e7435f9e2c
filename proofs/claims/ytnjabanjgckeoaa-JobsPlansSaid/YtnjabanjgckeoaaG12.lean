/- Lean: those that lean on some. -/
import Derived.Test.YtnjabanjgckeoaaG11
namespace Go.Proofs.Ytnjabanjgckeoaa
open Go.RowKit
open Go.ChangeMaps (setBlock)
set_option linter.unusedVariables false
set_option linter.unusedSimpArgs false
set_option maxRecDepth 100000

set_option maxHeartbeats 8000000 in
theorem GAt.lean {w : World} {g : Nat} {us : List GU} {ord som : List Nm} {v : Value} (h : GAt w g us ord) (hv : Sts w v som) :
    Calls Try.prog 28 #[.pointer (some ⟨g, 0, none⟩), v] w fun e w' => ∃ v' l, e = .returned v' ∧ Own w w' [rowSs v' l] ∧ Just l (LeanR us som) := by
  obtain ⟨i0, hi, hz0, hz1, hz2⟩ := infoS_ex
  have hord := h.order hv
  obtain ⟨bu, xs, hU⟩ := h.uni
  have HU := Lib.hid hU
  have HD := Lib.hid h.once
  have HN := Lib.hid h.few
  have H0 := Lib.hid (LnInv.start (som := som) h.perm h.once)
  have HW0 := Lib.hid (fun (W : World) (hb : Below w.heap.size w W) => (hU.later hb).cell)
  obtain ⟨av, nv, cv, rfl⟩ := hv.shape
  clear h hv hU
  go_enter Try.func28, Try.ntmps28
  go_wp2_with (go_at_call 27; refine hord.mono ?_; rintro e w1 ⟨v1, rfl, hO1⟩; have HO1 := Lib.hid hO1; clear hO1)
  go_loopw [5, 6] (fun s5 s6 wr => ∃ (k : Nat) (l : List Nm), k ≤ l.length ∧ s6 = .int .i64 k ∧ Own w wr [rowSs s5 l] ∧ LnInv us som l k) (fun _ s6 _ => 1001 - (intOf s6).toNat)
  case atStart => exact ⟨0, _, Nat.zero_le _, rfl, HO1.out, H0.out⟩
  case round =>
    obtain ⟨k, l, hkl, rfl, hO, hI⟩ := hrel
    have hll := hI.len HD.out
    have hlN := HN.out
    obtain ⟨a5, n5, c5, hv5⟩ := hO.sts.shape
    have hv5' : u5 = .slice a5 n5 c5 := hv5
    subst hv5'
    have hn5 : n5 = l.length := by
      obtain ⟨a', c', e', _⟩ := hO.sts
      injection e'
    by_cases hlt : k < l.length
    · have hl1 : (k : Int) < (n5 : Int) := by omega
      have hk1000 : (k : Int) ≤ 1000 := by omega
      obtain ⟨x, hx⟩ : ∃ x, l[k]? = some x := ⟨_, List.getElem?_eq_getElem hlt⟩
      obtain ⟨oi, o, hrun, hW⟩ := GW.start HU.out hO.below
      have hc := HW0.out _ hO.below
      have hr0 := hO.size
      have HR0 := Lib.hid (show LeRel w bu xs us som wr.heap.size k x (.slice a5 n5 c5) (wr.alloc oi) from ⟨oi, o, [], xs, l, hW, hO.newB oi, hI, hx, fun p hp => by cases hp⟩)
      have HLN := Lib.hid hlN
      have Hrr := Lib.hid hr0
      clear hO hI hll hlN hv5 hn5 hkl hW hlt hr0 hx
      go_upto_region 6 with fail
      clear hrun hc
      generalize hrr : wr.heap.size = r at *
      clear hrr
      obtain ⟨W8, hW8⟩ : ∃ W8 : World, W8 = wr.alloc oi := ⟨_, rfl⟩
      rw [← hW8] at HR0 ⊢
      clear hW8
      go_loopw [5] (fun s wq => LeRel w bu xs us som r k x s wq) (fun _ wq => leftG wq bu r)
      case atStart => exact HR0.out
      case round =>
        obtain ⟨oi2, o2, done, left, l, hW, hO, hI, hx, hdone⟩ := hrel
        have hle := hW.left_eq
        have hll := hI.len HD.out
        have hlN := HN.out
        have hkl := (List.getElem?_eq_some_iff.1 hx).1
        rcases hW.next with ⟨rfl, hnx⟩ | ⟨l1, l2, p, oi', w2', rfl, hw1, hnx, hW', hp, hen⟩
        · have hO2 : Own w wr [rowSs u5 l] := hO.forget (S' := []) (fun m hm => by cases hm)
          obtain ⟨fa, fc, hf, _, _⟩ := Own.sized (h := (show Own w wr (⟨9, 1, u5, l.length, strs l⟩ :: []) from hO2))
          have hI2 : LnInv us som l (k + 1) := hI.next hx fun u hu hl => by
            have hperm := hW.2.2.2.1
            rw [List.append_nil] at hperm
            have hn : u.name ∈ xs.map (·.name) := by rw [HU.out.units.names]; exact mem_names.2 ⟨u, hu, rfl⟩
            obtain ⟨p, hp, e⟩ := List.mem_map.1 hn
            have := hdone p (hperm.mem_iff.2 hp)
            rw [e, findU_mem HD.out hu] at this
            exact this hl
          subst hf
          have HR := Lib.hid (show k + 1 ≤ l.length ∧ Own w wr [rowSs (.slice fa l.length fc) l] ∧ LnInv us som l (k + 1) from ⟨by omega, hO2, hI2⟩)
          have hk9 : (k : Int) ≤ 1000 := by omega
          clear hW hle hO hO2 hI hI2 hx hdone hll hlN hkl
          go_wp2_with fail
          go_roundw
          case rel => exact ⟨k + 1, l, HR.out.1, by go_num, HR.out.2.1, HR.out.2.2⟩
          case measure => simp [intOf]; omega
        · have hr : ∀ oi2, ((r, oi2) : Nat × Obj) ∈ [(r, oi2)] := fun _ => List.mem_cons_self ..
          have hO1 : Own ⟨w, [(r, oi2)]⟩ w2' [rowSs u5 l] := by rcases hw1 with rfl | rfl; exact hO; exact hO.drew
          have hO2 : Own ⟨w, [(r, oi')]⟩ (setBlock w2' r oi') [rowSs u5 l] := by
            have := hO1.setB (hr _) oi'
            simpa [upd] using this
          obtain ⟨e1, e2⟩ := hW'.entry
          have hent := hen _ e1 e2
          have hl2 := hW'.left_eq
          have hmeas : (l1 ++ l2).length < leftG wr bu r := by rw [hle]; simp
          obtain ⟨hpn, hpv⟩ := HU.out.units.mem HD.out hp
          generalize hw2 : setBlock w2' r oi' = w2 at *
          obtain ⟨fb, fc, hf, _⟩ := Own.form (h := (show Own ⟨w, [(r, oi')]⟩ w2 (⟨9, 1, u5, l.length, strs l⟩ :: []) from hO2)) (by omega)
          subst hf
          have HWn := Lib.hid hW'
          have Hpv := Lib.hid hpv
          have HO2 := Lib.hid hO2
          have HM := Lib.hid hmeas
          have HI := Lib.hid hI
          have HX := Lib.hid hx
          have Hdone := Lib.hid hdone
          have honep := Lib.hid hpv.one
          have hcsp : (Try.prog.info? 44).map (·.size) = some p.cells.length := info_uv
          have h8p := Lib.hid (show (8 : Nat) = p.cells.length from rfl)
          have D4 := Lib.hid (show p.cells[4]? = some p.v4 from rfl)
          have D6 := Lib.hid (show p.cells[6]? = some p.v6 from rfl)
          have Hll := Lib.hid hll
          have HlN := Lib.hid hlN
          have hk1 : (k : Int) < (l.length : Int) := by omega
          have hk9 : (k : Int) ≤ 1000 := by omega
          clear hO hO1 hO2 hW hW' hle e1 e2 hen hl2 hmeas hw1 hw2 hpv hI hx hdone hll hlN hkl
          unfold UV.val at hent hnx
          generalize hpnb : toB p.name = pn at hent hnx
          have Hpn := Lib.hid hpnb
          clear hpnb
          generalize hpc : p.cells = pcs at *
          go_upto_region 8 with (refine wpList_store_new rfl 44 (.tmp 8) (.tmp 28) rfl HO2.out pcs w2.heap.size rfl rfl rfl h8p.out hcsp honep.out ?_)
          intro w3 hO3 _
          have d4 : w3.cell? ⟨w2.heap.size, 4, none⟩ = some p.v4 := by
            rw [hO3.cell 4 (by rw [← h8p.out]; decide)]; exact D4.out
          have d6 : w3.cell? ⟨w2.heap.size, 6, none⟩ = some p.v6 := by
            rw [hO3.cell 6 (by rw [← h8p.out]; decide)]; exact D6.out
          have hB3 : Below w.heap.size w w3 := hO3.below
          have ck : w3.cell? ⟨fb, k, none⟩ = some (.string (toB x)) := by
            have h1 := (List.getElem?_eq_some_iff.1 HX.out)
            obtain ⟨h2, h3⟩ := h1
            rw [Own.str hO3.tail k h2, h3]
          have K1 := Lib.hid (contains_q p.v4 _ x w3 (Hpv.out.later hB3).s4)
          have K2 := Lib.hid (contains_q p.v6 _ x w3 (Hpv.out.later hB3).s6)
          have K3 := Lib.hid (fun q => contains_any (.slice (some ⟨fb, 0, none⟩) l.length fc) l p.name (w3.drewN q) (hO3.tail.drewN).sts)
          rw [Hpn.out] at K3
          have hW3 : ∀ q, GW w r bu xs oi' o2 (done ++ [p]) (l1 ++ l2) (w3.drewN q) := fun q => ⟨(hO3.drewN).at (List.mem_cons_self ..), HWn.out.2.1, HWn.out.2.2.1, HWn.out.2.2.2.1, (hO3.drewN).below, HWn.out.2.2.2.2.2⟩
          have HNO := Lib.hid (fun (q : Nat) (hf : ((decide (x ∈ (findU us p.name).re) || decide (x ∈ (findU us p.name).pa)) && !decide (p.name ∈ l)) = false) => (show LeRel w bu xs us som r k x (.slice (some ⟨fb, 0, none⟩) l.length fc) (w3.drewN q) ∧ leftG (w3.drewN q) bu r < leftG wr bu r from ⟨⟨oi', o2, _, _, l, hW3 q, hO3.tail.drewN, HI.out, HX.out, fun y hy hyl => by
            rcases List.mem_append.1 hy with hy | hy
            · exact Hdone.out y hy hyl
            · rw [List.mem_singleton.1 hy] at hyl ⊢
              have e9 : (decide (x ∈ (findU us p.name).re) || decide (x ∈ (findU us p.name).pa)) = true := by simpa using hyl
              rw [e9] at hf
              simpa using hf⟩, by rw [(hW3 q).left_eq]; exact HM.out⟩))
          have HYES := Lib.hid (fun (q : Nat) (hf : (decide (x ∈ (findU us p.name).re) || decide (x ∈ (findU us p.name).pa)) = true) (hg : decide (p.name ∈ l) = false) (v4 : Value) (w4 : World) (hO4 : Own ⟨w, [(r, oi')]⟩ w4 (⟨9, 1, v4, l.length + 1, strs l ++ [.string pn]⟩ :: [])) => (show LeRel w bu xs us som r k x v4 w4 ∧ leftG w4 bu r < leftG wr bu r from by
            have hW4 : GW w r bu xs oi' o2 (done ++ [p]) (l1 ++ l2) w4 := ⟨hO4.at (List.mem_cons_self ..), HWn.out.2.1, HWn.out.2.2.1, HWn.out.2.2.2.1, hO4.below, HWn.out.2.2.2.2.2⟩
            obtain ⟨hu1, hu2⟩ := findU_of HD.out hpn
            have hadd := HI.out.add HX.out hu1 (by simpa using hf) (by rw [hu2]; exact of_decide_eq_false hg)
            rw [hu2] at hadd
            refine ⟨⟨oi', o2, _, _, l ++ [p.name], hW4, ?_, hadd, ?_, fun y hy hyl => ?_⟩, by rw [hW4.left_eq]; exact HM.out⟩
            · show Own _ w4 (⟨9, 1, v4, (l ++ [p.name]).length, strs (l ++ [p.name])⟩ :: [])
              rw [List.length_append, show strs (l ++ [p.name]) = strs l ++ [.string pn] from by rw [← Hpn.out]; simp [strs]]
              exact hO4
            · rw [List.getElem?_append_left (List.getElem?_eq_some_iff.1 HX.out).1]; exact HX.out
            · rcases List.mem_append.1 hy with hy | hy
              · exact List.mem_append_left _ (Hdone.out y hy hyl)
              · rw [List.mem_singleton.1 hy]; exact List.mem_append_right _ (List.mem_singleton.2 rfl)))
          have HO4 := Lib.hid (fun (q : Nat) => (show Own ⟨w, [(r, oi')]⟩ ((w3.drewN q).alloc (.cells #[.string pn] 9)) (⟨9, 1, .slice (some ⟨fb, 0, none⟩) l.length fc, l.length, strs l⟩ :: []) from (hO3.tail.drewN).alloc _))
          have Hsrc := Lib.hid (fun (q : Nat) => src_one (w3.drewN q) (.string pn) 9 rfl)
          have Hb1 := Lib.hid (show l.length + 1 ≤ maxLen from by have h1 := Hll.out; have h2 := HlN.out; unfold maxLen; omega)
          have Hb2 := Lib.hid (show (l.length + 1) * 16 ≤ 140737488355328 from by have h1 := Hll.out; have h2 := HlN.out; omega)
          clear hO3 hB3 hW3 hent hnx
          generalize decide (x ∈ (findU us p.name).re) = b1 at *
          generalize decide (x ∈ (findU us p.name).pa) = b2 at *
          generalize decide (p.name ∈ l) = b3 at *
          generalize p.v4 = pv4 at *
          generalize p.v6 = pv6 at *
          generalize toB x = xb at *
          cases b1 with
          | true =>
            cases b3 with
            | true =>
              go_wp2_with fail
              go_quiet (first | (go_at_call 25; exact Calls.quiet_of_same (K1.out _)) | (go_at_call 25; exact Calls.quiet_of_same (K2.out _)))
              have HNO := Lib.hid (HNO.out nq (by simp))
              go_wp2_with (go_at_call 25; refine (K3.out nq).mono ?_; rintro e w9 ⟨rfl, rfl⟩)
              go_roundw
              case rel => exact HNO.out.1
              case measure => exact HNO.out.2
            | false =>
              go_wp2_with fail
              go_quiet (first | (go_at_call 25; exact Calls.quiet_of_same (K1.out _)) | (go_at_call 25; exact Calls.quiet_of_same (K2.out _)))
              have HYES := Lib.hid (HYES.out nq (by simp) (by first | trivial | rfl))
              go_wp2_with (first
                | (at_builtin; refine wpList_append_src rfl (.tmp 52) (.tmp 54) 23 rfl (.slice (some ⟨fb, 0, none⟩) l.length fc) l.length (strs l) (.slice (some ⟨w3.heap.size, 0, none⟩) 1 1) 1 [.string pn] rfl rfl (HO4.out nq) i0 (.string ⟨#[]⟩) 16 Try.underlying23 hi hz0 hz1 hz2 rfl (by decide) (Hsrc.out nq) (by simp) Hb1.out Hb2.out ?_)
                | (go_at_call 25; refine (K3.out nq).mono ?_; rintro e w9 ⟨rfl, rfl⟩))
              intro v4 w4 hO4
              have HR := Lib.hid (HYES.out v4 w4 hO4)
              obtain ⟨a4, c4, hv4, _, _⟩ := Own.sized (h := hO4)
              subst hv4
              clear hO4
              go_wp2_with fail
              go_roundw
              case rel => exact HR.out.1
              case measure => exact HR.out.2
          | false =>
            cases b2 with
            | true =>
              cases b3 with
              | true =>
                go_wp2_with fail
                go_quiet (first | (go_at_call 25; exact Calls.quiet_of_same (K1.out _)) | (go_at_call 25; exact Calls.quiet_of_same (K2.out _)))
                have HNO := Lib.hid (HNO.out nq (by simp))
                go_wp2_with (go_at_call 25; refine (K3.out nq).mono ?_; rintro e w9 ⟨rfl, rfl⟩)
                go_roundw
                case rel => exact HNO.out.1
                case measure => exact HNO.out.2
              | false =>
                go_wp2_with fail
                go_quiet (first | (go_at_call 25; exact Calls.quiet_of_same (K1.out _)) | (go_at_call 25; exact Calls.quiet_of_same (K2.out _)))
                have HYES := Lib.hid (HYES.out nq (by simp) (by first | trivial | rfl))
                go_wp2_with (first
                  | (at_builtin; refine wpList_append_src rfl (.tmp 52) (.tmp 54) 23 rfl (.slice (some ⟨fb, 0, none⟩) l.length fc) l.length (strs l) (.slice (some ⟨w3.heap.size, 0, none⟩) 1 1) 1 [.string pn] rfl rfl (HO4.out nq) i0 (.string ⟨#[]⟩) 16 Try.underlying23 hi hz0 hz1 hz2 rfl (by decide) (Hsrc.out nq) (by simp) Hb1.out Hb2.out ?_)
                  | (go_at_call 25; refine (K3.out nq).mono ?_; rintro e w9 ⟨rfl, rfl⟩))
                intro v4 w4 hO4
                have HR := Lib.hid (HYES.out v4 w4 hO4)
                obtain ⟨a4, c4, hv4, _, _⟩ := Own.sized (h := hO4)
                subst hv4
                clear hO4
                go_wp2_with fail
                go_roundw
                case rel => exact HR.out.1
                case measure => exact HR.out.2
            | false =>
              go_wp2_with fail
              go_quiet (first | (go_at_call 25; exact Calls.quiet_of_same (K1.out _)) | (go_at_call 25; exact Calls.quiet_of_same (K2.out _)))
              have HNO := Lib.hid (HNO.out nq (by simp))
              go_wp2_with fail
              go_roundw
              case rel => exact HNO.out.1
              case measure => exact HNO.out.2
    · obtain rfl : k = l.length := by omega
      subst hn5
      have hs := sortS_row hO (by omega)
      have HJ := Lib.hid hI.fin
      have hk9 : (l.length : Int) ≤ 1000 := by omega
      clear hO hI hll hlN hv5 hkl hlt
      go_wp2_with (go_at_call 36; refine hs.mono ?_; rintro e w3 ⟨rfl, hO3⟩; have HO3 := Lib.hid hO3; clear hO3)
      go_ret
      exact ⟨_, _, rfl, HO3.out, HJ.out⟩
end Go.Proofs.Ytnjabanjgckeoaa
