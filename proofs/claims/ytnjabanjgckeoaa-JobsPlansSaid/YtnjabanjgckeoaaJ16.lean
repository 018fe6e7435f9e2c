/- The document's Lean. -/
import Derived.Test.YtnjabanjgckeoaaJ15
namespace Go.Proofs.Ytnjabanjgckeoaa
open Go.RowKit
open Go.ChangeMaps (setBlock)
set_option linter.unusedVariables false
set_option linter.unusedSimpArgs false
set_option maxRecDepth 100000

def onD (us : List GU) (n x : Nm) : Bool := decide (x ∈ (findU us n).re) || decide (x ∈ (findU us n).pa)
def leansD (us : List GU) (som inn : List Nm) (n : Nm) : Bool := decide (n ∈ som) || inn.any (onD us n)
def addD (us : List GU) (som inn : List Nm) (n : Nm) : List Nm := if leansD us som inn n && !decide (n ∈ inn) then inn ++ [n] else inn
def passD (us : List GU) (som S inn : List Nm) (k : Nat) : List Nm := (S.take k).foldl (addD us som) inn
def leanDn (us : List GU) (som S : List Nm) : Nat → List Nm
  | 0 => []
  | n + 1 => passD us som S (leanDn us som S n) S.length
theorem addD_length (us : List GU) (som inn : List Nm) (n : Nm) : (addD us som inn n).length ≤ inn.length + 1 := by
  unfold addD
  split <;> simp
theorem passD_succ {us : List GU} {som S inn : List Nm} {k : Nat} (hk : k < S.length) : passD us som S inn (k + 1) = addD us som (passD us som S inn k) S[k] := by
  unfold passD
  rw [List.take_succ_eq_append_getElem hk, List.foldl_append]
  rfl
theorem passD_length (us : List GU) (som S inn : List Nm) : ∀ k, k ≤ S.length → (passD us som S inn k).length ≤ inn.length + k
  | 0, _ => by unfold passD; simp
  | k + 1, h => by
    rw [passD_succ (by omega)]
    have h1 := addD_length us som (passD us som S inn k) (S[k]'(by omega))
    have h2 := passD_length us som S inn k (by omega)
    omega
theorem leanDn_length (us : List GU) (som S : List Nm) : ∀ n, (leanDn us som S n).length ≤ n * S.length
  | 0 => Nat.zero_le _
  | n + 1 => by
    have h1 := passD_length us som S (leanDn us som S n) S.length (Nat.le_refl _)
    have h2 := leanDn_length us som S n
    rw [Nat.succ_mul]
    exact Nat.le_trans h1 (by omega)
theorem any_take {p : Nm → Bool} {S : List Nm} {j : Nat} (hj : j < S.length) : (S.take (j + 1)).any p = ((S.take j).any p || p S[j]) := by
  rw [List.take_succ_eq_append_getElem hj, List.any_append]
  simp
theorem info_du : (Try.prog.info? 62).map (·.size) = some 8 := by kernel_rfl
set_option maxHeartbeats 8000000 in
theorem dlean_any (w : World) {v v2 : Value} {us : List GU} {som : List Nm} (h : DU w v us) (hs : Sts w v2 som) : Calls Try.prog 9 #[v, v2] w fun e w' => ∃ v', e = .returned v' ∧ Own w w' [rowSs v' (pick (sortN (namesU us)) (leanDn us som (sortN (namesU us)) ((sortN (namesU us)).length + 1)))] := by
  obtain ⟨i0, hi, hz0, hz1, hz2⟩ := infoS_ex
  have hSl : (sortN (namesU us)).length ≤ 1000000 := by
    rw [sortN_length]; unfold namesU; rw [List.length_map]
    obtain ⟨_, _, _, _, hl, _⟩ := h; exact hl
  have hul : (us.length : Int) ≤ 1000000 := by obtain ⟨_, _, _, _, hl, _⟩ := h; omega
  obtain ⟨S, hS⟩ : ∃ S, sortN (namesU us) = S := ⟨_, rfl⟩
  have kn := Lib.hid (fun (W : World) (hb : Below w.heap.size w W) => dnames_any W (h.later hb))
  rw [hS] at kn hSl ⊢
  have HSm := Lib.hid (fun (k : Nat) (hk : k < S.length) => (show S[k] ∈ namesU us from mem_sortN.1 (by rw [hS]; exact List.getElem_mem hk)))
  clear hS
  have H := Lib.hid (fun (W : World) (hb : Below w.heap.size w W) => h.later hb)
  have HV := Lib.hid (fun (W : World) (hb : Below w.heap.size w W) => hs.later hb)
  obtain ⟨a0, c0, rfl⟩ := h.shape
  obtain ⟨aw, nw, cw, rfl⟩ := hs.shape
  clear h hs
  have hSz : (S.length : Int) ≤ 1000000 := by omega
  go_enter Try.func9, Try.ntmps9
  go_upto_region 2 with fail
  have H0 := Lib.hid (show Own w (w.alloc (.cells #[] 9)) [rowSs (.slice (some ⟨w.heap.size, 0, none⟩) 0 0) []] from (Own.start w).made 9 1 #[] 0 rfl (by unfold maxLen; omega))
  have kn0 := kn.out _ H0.out.below
  go_upto_region 3 with (go_at_call 12; refine kn0.mono ?_; rintro e w1 ⟨v1, rfl, hO1⟩; obtain ⟨a3, c3, rfl, _, _, _⟩ := hO1.sts; have H1 := Lib.hid (H0.out.join hO1); clear hO1)
  clear kn0
  go_wp2_with fail
  go_loopw [5, 7] (fun s5 s7 wr => ∃ n : Nat, n ≤ S.length + 1 ∧ s7 = .int .i64 n ∧ Own w wr [rowSs s5 (leanDn us som S n), rowSs (.slice a3 S.length c3) S]) (fun _ s7 _ => S.length + 1 - (intOf s7).toNat)
  case atStart => exact ⟨0, by omega, rfl, H1.out.swap⟩
  case round =>
    obtain ⟨n, hn, rfl, hO⟩ := hrel
    obtain ⟨inn0, hinn0⟩ : ∃ inn0, leanDn us som S n = inn0 := ⟨_, rfl⟩
    have hol := leanDn_length us som S n
    rw [hinn0] at hO hol
    have hol2 : inn0.length ≤ 1000001 * 1000000 := Nat.le_trans hol (Nat.mul_le_mul (by omega) hSl)
    have Hst := Lib.hid (show passD us som S inn0 S.length = leanDn us som S (n + 1) from by rw [← hinn0]; rfl)
    have Hol := Lib.hid hol2
    have HO := Lib.hid hO
    by_cases hle : n ≤ S.length
    · clear hO hol hol2 hinn0
      have hzn : (n : Int) ≤ (S.length : Int) := by omega
      go_wp2_with fail
      go_loopw [5, 8] (fun s5 s8 wr => ∃ k : Nat, k ≤ S.length ∧ s8 = .int .i64 k ∧ Own w wr [rowSs s5 (passD us som S inn0 k), rowSs (.slice a3 S.length c3) S]) (fun _ s8 _ => S.length - (intOf s8).toNat)
      case atStart => exact ⟨0, Nat.zero_le _, rfl, HO.out⟩
      case round =>
        obtain ⟨k, hk, rfl, hOm⟩ := hrel
        by_cases hlt : k < S.length
        · have hkz : (k : Int) < (S.length : Int) := by omega
          obtain ⟨inn, hinn⟩ : ∃ inn, passD us som S inn0 k = inn := ⟨_, rfl⟩
          have hil := passD_length us som S inn0 k hk
          have hstp := passD_succ (us := us) (som := som) (inn := inn0) hlt
          rw [hinn] at hOm hil hstp
          have hil2 : inn.length ≤ 1000003000000 := by have := Hol.out; omega
          obtain ⟨a5, c5, hv5, _, _, _⟩ := hOm.sts
          subst hv5
          obtain ⟨_, _, e3, _, _, h4⟩ := hOm.tail.sts
          injection e3 with e3 _ e33
          subst e33
          obtain ⟨b, o, e4, _, hc⟩ := h4 (by omega)
          subst e3
          subst e4
          have ck := hc k hlt
          have hmn := HSm.out k hlt
          obtain ⟨nm, hnm⟩ : ∃ nm, S[k] = nm := ⟨_, rfl⟩
          rw [hnm] at ck hmn hstp
          have HNM := Lib.hid hnm
          have Hstp := Lib.hid hstp
          have Hil := Lib.hid hil2
          have kf := Lib.hid (dfind_any wr (H.out wr hOm.below) nm)
          obtain ⟨nb, hnb⟩ : ∃ nb, toB nm = nb := ⟨_, rfl⟩
          rw [hnb] at ck kf
          have HNB := Lib.hid hnb
          have HOm := Lib.hid hOm
          have Hmn := Lib.hid hmn
          clear hOm hc h4 hnm hnb hmn hstp hil hil2 hinn
          go_wp2_with fail
          go_at_call 14
          refine kf.out.mono ?_
          rintro e w9 ⟨⟨r, rfl, hF⟩, rfl⟩
          rcases hF with ⟨_, hN⟩ | ⟨i, hiu, rfl, hun, _, hfu⟩
          · exact absurd Hmn.out hN
          obtain ⟨bq, oq, X, rfl, hX, hcX⟩ := (H.out w (Below.refl _ _)).at i hiu
          rw [← hfu] at hX
          have HXU := Lib.hid hX
          have Hone := Lib.hid hX.one
          have hrg2 : w9.rangeAt bq (oq + i * 8) X.cells := fun j u hj => by
            have h1 := hcX j u hj
            exact (HOm.out.below.cell (p := ⟨bq, oq + i * 8 + j, none⟩) (World.block_lt_of_cell? w _ h1)).trans h1
          have hcsp : (Try.prog.info? 62).map (·.size) = some X.cells.length := info_du
          have h8 := Lib.hid (show (8 : Nat) = X.cells.length from rfl)
          have D4 := Lib.hid (show X.cells[4]? = some X.v4 from rfl)
          have D6 := Lib.hid (show X.cells[6]? = some X.v6 from rfl)
          have hiz : (i : Int) < (us.length : Int) := by omega
          clear kf hcX hX hun hfu hiu
          generalize X.cells = pcs at *
          go_upto_region 10 with (first
            | (refine wpList_load_mid rfl 62 (.tmp 36) rfl bq (oq + i * 8) rfl pcs _ hrg2 Try.underlying62 rfl hcsp ?_)
            | (refine wpList_store_new rfl 62 (.tmp 9) (.tmp 37) rfl HOm.out pcs w9.heap.size rfl rfl rfl h8.out hcsp Hone.out ?_))
          intro w4 hO4 _
          have d4 : w4.cell? ⟨w9.heap.size, 4, none⟩ = some X.v4 := by
            rw [hO4.cell 4 (by rw [← h8.out]; decide)]; exact D4.out
          have d6 : w4.cell? ⟨w9.heap.size, 6, none⟩ = some X.v6 := by
            rw [hO4.cell 6 (by rw [← h8.out]; decide)]; exact D6.out
          have ck4 : w4.cell? ⟨b, o + k, none⟩ = some (.string nb) := by
            obtain ⟨_, _, e3, _, _, h4⟩ := hO4.tail.tail.sts
            injection e3 with e3 _ e33
            subst e33
            obtain ⟨b', o', e4, _, hc⟩ := h4 (by omega)
            rw [← e3] at e4
            injection e4 with e4
            injection e4 with e5 e6 _
            subst e5
            subst e6
            have h9 := hc k hlt
            rw [HNM.out, HNB.out] at h9
            exact h9
          have kh := Lib.hid (dhas_any w4 (HV.out w4 hO4.below) nm)
          obtain ⟨b1, hb1⟩ : ∃ b1, decide (nm ∈ som) = b1 := ⟨_, rfl⟩
          rw [hb1, HNB.out] at kh
          have HB1 := Lib.hid hb1
          have HO4 := Lib.hid hO4
          generalize hH : w9.heap.size = HB at *
          clear hO4 hb1 d4 d6 ck hrg2
          go_wp2_with fail
          go_at_call 31
          refine kh.out.mono ?_
          rintro e w5 ⟨rfl, rfl⟩
          clear kh
          go_wp2_with fail
          go_loopw [10, 11] (fun s10 s11 wr => ∃ j : Nat, j ≤ inn.length ∧ s11 = .int .i64 j ∧ s10 = .bool (b1 || (inn.take j).any (onD us nm)) ∧ Own w wr [⟨62, pcs.length, .slice (some ⟨HB, 0, none⟩) 1 1, 1, pcs⟩, rowSs (.slice a5 inn.length c5) inn, rowSs (.slice (some ⟨b, o, none⟩) S.length c3) S]) (fun _ s11 _ => inn.length - (intOf s11).toNat)
          case atStart => exact ⟨0, Nat.zero_le _, rfl, by simp, HO4.out⟩
          case round =>
            obtain ⟨j, hj, rfl, rfl, hOj⟩ := hrel
            have HOj := Lib.hid hOj
            obtain ⟨b2, hb2⟩ : ∃ b2, (b1 || (inn.take j).any (onD us nm)) = b2 := ⟨_, rfl⟩
            rw [hb2]
            have HB2 := Lib.hid hb2
            clear hb2
            by_cases hjl : j < inn.length
            · have hjz : (j : Int) < (inn.length : Int) := by omega
              have hjz2 : (j : Int) ≤ 1000003000000 := by have := Hil.out; omega
              obtain ⟨_, _, e3, _, _, h4⟩ := hOj.tail.sts
              injection e3 with e3 _ e33
              subst e33
              obtain ⟨b', o', e4, _, hc⟩ := h4 (by omega)
              subst e3
              subst e4
              have cj := hc j hjl
              obtain ⟨x, hx⟩ : ∃ x, inn[j] = x := ⟨_, rfl⟩
              rw [hx] at cj
              obtain ⟨xb, hxb⟩ : ∃ xb, toB x = xb := ⟨_, rfl⟩
              have HA2 := Lib.hid (any_take (p := onD us nm) hjl)
              rw [hx] at HA2
              have d4 : wr.cell? ⟨HB, 4, none⟩ = some X.v4 := by
                rw [hOj.cell 4 (by rw [← h8.out]; decide)]; exact D4.out
              have d6 : wr.cell? ⟨HB, 6, none⟩ = some X.v6 := by
                rw [hOj.cell 6 (by rw [← h8.out]; decide)]; exact D6.out
              have K2 := Lib.hid (fun (q : Nat) => dhas_any (wr.drewN q) (HXU.out.later (hOj.drewN (n := q)).below).s4 x)
              have K3 := Lib.hid (fun (q : Nat) => dhas_any (wr.drewN q) (HXU.out.later (hOj.drewN (n := q)).below).s6 x)
              rw [hxb] at K2 K3 cj
              obtain ⟨b3, hb3⟩ : ∃ b3, decide (x ∈ (findU us nm).re) = b3 := ⟨_, rfl⟩
              obtain ⟨b4, hb4⟩ : ∃ b4, decide (x ∈ (findU us nm).pa) = b4 := ⟨_, rfl⟩
              rw [hb3] at K2
              rw [hb4] at K3
              have HVn := Lib.hid (show (b1 || (inn.take (j + 1)).any (onD us nm)) = (b2 || (b3 || b4)) from by
                rw [HA2.out, ← HB2.out, Bool.or_assoc]; unfold onD; rw [hb3, hb4])
              have HQ := Lib.hid (fun (q : Nat) => hOj.drewN (n := q))
              have D4' := Lib.hid (show pcs[4]? = some X.v4 from D4.out)
              clear hc h4 hb3 hb4 hx hxb HA2 hOj HOj
              generalize X.v4 = y4 at *
              generalize X.v6 = y6 at *
              cases b2
              · cases b3
                · cases b4
                  · go_wp2_with fail
                    go_quiet (first | (go_at_call 31; with_reducible exact Calls.quiet_of_same (K2.out _)) | (go_at_call 31; with_reducible exact Calls.quiet_of_same (K3.out _)))
                    go_wp2_with fail
                    go_roundw
                    case rel => exact ⟨j + 1, by omega, by go_num, by rw [HVn.out]; simp, HQ.out _⟩
                    case measure => simp [intOf]; omega
                  · go_wp2_with fail
                    go_quiet (first | (go_at_call 31; with_reducible exact Calls.quiet_of_same (K2.out _)) | (go_at_call 31; with_reducible exact Calls.quiet_of_same (K3.out _)))
                    go_wp2_with fail
                    go_roundw
                    case rel => exact ⟨j + 1, by omega, by go_num, by rw [HVn.out]; simp, HQ.out _⟩
                    case measure => simp [intOf]; omega
                · go_wp2_with fail
                  go_quiet (first | (go_at_call 31; with_reducible exact Calls.quiet_of_same (K2.out _)) | (go_at_call 31; with_reducible exact Calls.quiet_of_same (K3.out _)))
                  go_wp2_with fail
                  go_roundw
                  case rel => exact ⟨j + 1, by omega, by go_num, by rw [HVn.out]; simp, HQ.out _⟩
                  case measure => simp [intOf]; omega
              · go_wp2_with fail
                go_quiet (fail)
                go_wp2_with fail
                go_roundw
                case rel => exact ⟨j + 1, by omega, by go_num, by rw [HVn.out]; simp, HQ.out _⟩
                case measure => simp [intOf]; omega
            · have hjz : (inn.length : Int) ≤ (j : Int) := by omega
              have HF := Lib.hid (show leansD us som inn nm = b2 from by
                rw [← HB2.out, List.take_of_length_le (by omega), ← HB1.out]; rfl)
              have ck5 : wr.cell? ⟨b, o + k, none⟩ = some (.string nb) := by
                obtain ⟨_, _, e3, _, _, h4⟩ := hOj.tail.tail.sts
                injection e3 with e3 _ e33
                subst e33
                obtain ⟨b', o', e4, _, hc⟩ := h4 (by omega)
                rw [← e3] at e4
                injection e4 with e4
                injection e4 with e5 e6 _
                subst e5
                subst e6
                have h9 := hc k hlt
                rw [HNM.out, HNB.out] at h9
                exact h9
              have k4 := Lib.hid (dhas_any wr hOj.tail.sts nm)
              obtain ⟨b5, hb5⟩ : ∃ b5, decide (nm ∈ inn) = b5 := ⟨_, rfl⟩
              rw [hb5, HNB.out] at k4
              have HT := Lib.hid hOj.tail
              have HA5 := Lib.hid (show passD us som S inn0 (k + 1) = if b2 && !b5 then inn ++ [nm] else inn from by
                rw [Hstp.out]; unfold addD; rw [HF.out, hb5])
              have Hb1 := Lib.hid (show inn.length + 1 ≤ maxLen from by have := Hil.out; unfold maxLen; omega)
              have Hb2 := Lib.hid (show (inn.length + 1) * 16 ≤ 140737488355328 from by have := Hil.out; omega)
              have hkz2 : (k : Int) ≤ 1000000 := by omega
              clear hOj HOj hb5
              cases b2
              · have HR := Lib.hid (show Own w wr [rowSs (.slice a5 inn.length c5) (passD us som S inn0 (k + 1)), rowSs (.slice (some ⟨b, o, none⟩) S.length c3) S] from by rw [HA5.out]; exact HT.out)
                go_wp2_with fail
                go_roundw
                case rel => exact ⟨k + 1, by omega, by go_num, HR.out⟩
                case measure => simp [intOf]; omega
              · go_wp2_with fail
                go_at_call 31
                refine k4.out.mono ?_
                rintro e w6 ⟨rfl, rfl⟩
                cases b5
                · have HO6 := Lib.hid (HT.out.alloc (.cells #[.string nb] 9))
                  have Hsrc := Lib.hid (src_one w6 (.string nb) 9 rfl)
                  go_wp2_with (at_builtin; refine wpList_append_src rfl (.tmp 81) (.tmp 86) 23 rfl (.slice a5 inn.length c5) inn.length (strs inn) (.slice (some ⟨w6.heap.size, 0, none⟩) 1 1) 1 [.string nb] rfl rfl HO6.out i0 (.string ⟨#[]⟩) 16 Try.underlying23 hi hz0 hz1 hz2 rfl (by decide) Hsrc.out (by simp) Hb1.out Hb2.out ?_)
                  intro v7 w7 hO7
                  obtain ⟨a8, c8, hv8, _, _⟩ := Own.sized (h := hO7)
                  subst hv8
                  have HO7 := Lib.hid (show Own w w7 [rowSs (.slice a8 (inn.length + 1) c8) (passD us som S inn0 (k + 1)), rowSs (.slice (some ⟨b, o, none⟩) S.length c3) S] from by
                    rw [HA5.out]
                    show Own w w7 [⟨9, 1, _, (inn ++ [nm]).length, strs (inn ++ [nm])⟩, _]
                    rw [List.length_append, show strs (inn ++ [nm]) = strs inn ++ [.string nb] from by rw [← HNB.out]; simp [strs]]
                    exact hO7)
                  clear hO7
                  go_wp2_with fail
                  go_roundw
                  case rel => exact ⟨k + 1, by omega, by go_num, HO7.out⟩
                  case measure => simp [intOf]; omega
                · have HR := Lib.hid (show Own w w6 [rowSs (.slice a5 inn.length c5) (passD us som S inn0 (k + 1)), rowSs (.slice (some ⟨b, o, none⟩) S.length c3) S] from by rw [HA5.out]; exact HT.out)
                  go_wp2_with fail
                  go_roundw
                  case rel => exact ⟨k + 1, by omega, by go_num, HR.out⟩
                  case measure => simp [intOf]; omega
        · obtain rfl : k = S.length := by omega
          have HR := Lib.hid (show Own w wr [rowSs u5 (leanDn us som S (n + 1)), rowSs (.slice a3 S.length c3) S] from by
            rw [← Hst.out]; exact hOm)
          clear hOm
          go_wp2_with fail
          go_roundw
          case rel => exact ⟨n + 1, by omega, by go_num, HR.out⟩
          case measure => simp [intOf]; omega
    · have hnS : n = S.length + 1 := by omega
      obtain ⟨a5, c5, hv5, _, _, _⟩ := hO.sts
      subst hv5
      rw [hnS] at hinn0
      have HE := Lib.hid hinn0
      have hnz : (S.length : Int) < (n : Int) := by omega
      clear hO hol hol2 hinn0 hnS Hst
      go_wp2_with fail
      go_loopw [12, 13] (fun s12 s13 wr => ∃ k : Nat, k ≤ S.length ∧ s13 = .int .i64 k ∧ Own w wr [rowSs s12 (pick (S.take k) inn0), rowSs (.slice a5 inn0.length c5) inn0, rowSs (.slice a3 S.length c3) S]) (fun _ s13 _ => S.length - (intOf s13).toNat)
      case atStart => exact ⟨0, Nat.zero_le _, rfl, HO.out.made 9 1 #[] 0 rfl (by unfold maxLen; omega)⟩
      case round =>
        obtain ⟨k, hk, rfl, hOm⟩ := hrel
        obtain ⟨a4, c4, hv4, _, _, _⟩ := hOm.sts
        subst hv4
        by_cases hlt : k < S.length
        · have hkz : (k : Int) < (S.length : Int) := by omega
          obtain ⟨_, _, e3, _, _, h4⟩ := hOm.tail.tail.sts
          injection e3 with e3 _ e33
          subst e33
          obtain ⟨b, o, e4, _, hc⟩ := h4 (by omega)
          subst e3
          subst e4
          have ck := hc k hlt
          have hpk := pick_take S inn0 k hlt
          have hpl : (pick (S.take k) inn0).length ≤ 1000000 := by
            have h1 := pick_len (S.take k) inn0
            have h2 := List.length_take_le k S
            omega
          obtain ⟨out, hout⟩ : ∃ out, pick (S.take k) inn0 = out := ⟨_, rfl⟩
          rw [hout] at hOm hpk hpl
          obtain ⟨nm, hnm⟩ : ∃ nm, S[k] = nm := ⟨_, rfl⟩
          rw [hnm] at ck hpk
          have kh := Lib.hid (dhas_any wr hOm.tail.sts nm)
          obtain ⟨nb, hnb⟩ : ∃ nb, toB nm = nb := ⟨_, rfl⟩
          rw [hnb] at ck kh
          have HNB := Lib.hid hnb
          have HOm := Lib.hid hOm
          have Hpk := Lib.hid hpk
          have Hb1 := Lib.hid (show out.length + 1 ≤ maxLen from by unfold maxLen; omega)
          have Hb2 := Lib.hid (show (out.length + 1) * 16 ≤ 140737488355328 from by omega)
          clear hOm hc h4 hnm hnb hpk hpl
          rw [hout]
          clear hout
          by_cases hx : nm ∈ inn0
          · rw [decide_eq_true hx] at kh
            rw [if_pos hx] at Hpk
            clear hx
            go_wp2_with fail
            go_at_call 31
            refine kh.out.mono ?_
            rintro e w6 ⟨rfl, rfl⟩
            have HO6 := Lib.hid (HOm.out.alloc (.cells #[.string nb] 9))
            have Hsrc := Lib.hid (src_one w6 (.string nb) 9 rfl)
            go_wp2_with (at_builtin; refine wpList_append_src rfl (.tmp 101) (.tmp 106) 23 rfl (.slice a4 out.length c4) out.length (strs out) (.slice (some ⟨w6.heap.size, 0, none⟩) 1 1) 1 [.string nb] rfl rfl HO6.out i0 (.string ⟨#[]⟩) 16 Try.underlying23 hi hz0 hz1 hz2 rfl (by decide) Hsrc.out (by simp) Hb1.out Hb2.out ?_)
            intro v7 w7 hO7
            obtain ⟨a8, c8, hv8, _, _⟩ := Own.sized (h := hO7)
            subst hv8
            have HO7 := Lib.hid (show Own w w7 [rowSs (.slice a8 (out.length + 1) c8) (pick (S.take (k + 1)) inn0), rowSs (.slice a5 inn0.length c5) inn0, rowSs (.slice (some ⟨b, o, none⟩) S.length c3) S] from by
              rw [Hpk.out]
              show Own w w7 [⟨9, 1, _, (out ++ [nm]).length, strs (out ++ [nm])⟩, _, _]
              rw [List.length_append, show strs (out ++ [nm]) = strs out ++ [.string nb] from by rw [← HNB.out]; simp [strs]]
              exact hO7)
            clear hO7
            go_wp2_with fail
            go_roundw
            case rel => exact ⟨k + 1, by omega, by go_num, HO7.out⟩
            case measure => simp [intOf]; omega
          · rw [decide_eq_false hx] at kh
            rw [if_neg hx, List.append_nil] at Hpk
            have HR := Lib.hid (show Own w wr [rowSs (.slice a4 out.length c4) (pick (S.take (k + 1)) inn0), rowSs (.slice a5 inn0.length c5) inn0, rowSs (.slice (some ⟨b, o, none⟩) S.length c3) S] from by rw [Hpk.out]; exact HOm.out)
            clear hx
            go_wp2_with fail
            go_at_call 31
            refine kh.out.mono ?_
            rintro e w6 ⟨rfl, rfl⟩
            go_wp2_with fail
            go_roundw
            case rel => exact ⟨k + 1, by omega, by go_num, HR.out⟩
            case measure => simp [intOf]; omega
        · obtain rfl : k = S.length := by omega
          have HR := Lib.hid (show Own w wr [rowSs (.slice a4 (pick (S.take S.length) inn0).length c4) (pick S (leanDn us som S (S.length + 1)))] from by
            rw [HE.out]
            have h1 : Own w wr [rowSs (.slice a4 (pick (S.take S.length) inn0).length c4) (pick (S.take S.length) inn0)] := hOm.swap.tail.swap.tail
            have h2 : pick (S.take S.length) inn0 = pick S inn0 := by rw [List.take_length]
            rw [h2] at h1 ⊢
            exact h1)
          clear hOm
          go_wp2_with fail
          go_ret
          exact ⟨_, rfl, HR.out⟩
end Go.Proofs.Ytnjabanjgckeoaa
