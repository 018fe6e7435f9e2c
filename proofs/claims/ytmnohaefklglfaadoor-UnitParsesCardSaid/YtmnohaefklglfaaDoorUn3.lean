/- What a line says, taken by the parser: a name, a retry. -/
import Derived.Test.YtmnohaefklglfaaDoorUn2
import Derived.Test.YtmnohaefklglfaaDoorPMx
import Derived.Lib.Hide
namespace Go.Proofs.YtmnohaefklglfaaDoor
open Go.RowKit
open Go.ChangeMaps (setBlock)
set_option linter.unusedVariables false
set_option linter.unusedSimpArgs false
set_option maxRecDepth 100000

theorem toList_toB (l : List UInt8) : (toB l).toList = l := by rw [Lib.toList_data]
section
variable {w0 w w' : World} {K K' : Blocks} {ub mb pb b : Nat} {u : UD}
set_option maxHeartbeats 2000000 in
theorem name_u (h : PU w0 K ub mb pb u w) (r : List UInt8) (hr : r.length ≤ 1000000) :
    Calls Tryd.prog 27 #[.pointer (some ⟨pb, 0, none⟩), .string (toB r)] w fun e w' => e = .returned (.int .i64 (nameU u r).2) ∧ PU w0 K ub mb pb (nameU u r).1 w' := by
  have hnm := name_list r w hr
  unfold nameU
  cases hn : nameL r with
  | false =>
    rw [hn] at hnm
    rw [if_pos rfl]
    have H := Lib.hid h
    clear h hn hr
    generalize toB r = rs at *
    go_enter Tryd.func27, Tryd.ntmps27
    go_wp2_with fail
    refine hnm.mono ?_
    rintro e w1 ⟨rfl, hb⟩
    have H1 := Lib.hid (H.out.later hb)
    clear hnm hb
    go_wp2_with fail
    go_ret
    exact ⟨rfl, H1.out⟩
  | true =>
    rw [hn] at hnm
    rw [if_neg (by decide)]
    by_cases hu : u.name = []
    · rw [if_neg (fun e => e hu)]
      have H := Lib.hid h
      have hs : (toB u.name).toList = [] := by rw [toList_toB, hu]
      have HS := Lib.hid hs
      clear h hn hr hu hs
      go_enter Tryd.func27, Tryd.ntmps27
      go_wp2_with fail
      refine hnm.mono ?_
      rintro e w1 ⟨rfl, hb⟩
      have h1 := H.out.later hb
      have HP := Lib.hid (h1.setName r)
      obtain ⟨p0, _, _, _⟩ := h1.parser
      obtain ⟨n0, nf⟩ := h1.name
      have nf0 := nf 0
      have hs0 : (toB u.name).toList.isEmpty = true := by rw [HS.out]; rfl
      clear hnm hb h1 nf
      generalize toB u.name = us at *
      go_wp2_with fail
      go_ret
      exact ⟨rfl, HP.out⟩
    · rw [if_pos hu]
      have H := Lib.hid h
      have HS := Lib.hid (show (toB u.name).toList ≠ [] by rw [toList_toB]; exact hu)
      clear h hn hr hu
      go_enter Tryd.func27, Tryd.ntmps27
      go_wp2_with fail
      refine hnm.mono ?_
      rintro e w1 ⟨rfl, hb⟩
      have h1 := H.out.later hb
      obtain ⟨p0, _, _, _⟩ := h1.parser
      obtain ⟨n0, nf⟩ := h1.name
      have hs0 : (toB u.name).toList.isEmpty = false := by simpa using HS.out
      have HP := Lib.hid h1
      clear hnm hb h1 nf
      generalize toB u.name = us at *
      go_wp2_with fail
      go_ret
      exact ⟨rfl, HP.out⟩
theorem retry_no (h : PU w0 K ub mb pb u w) (rs : ByteArray) (hs : digitU rs.data.toList = none) :
    Calls Tryd.prog 28 #[.pointer (some ⟨pb, 0, none⟩), .string rs] w fun e w' => e = .returned (.int .i64 2) ∧ PU w0 K ub mb pb u w' := by
  have H := Lib.hid h
  have hz : rs.data.toList.length = rs.size := (Lib.size_eq rs).symm
  clear h
  by_cases h1 : rs.size = 1
  · obtain ⟨c, hc⟩ : ∃ c, rs.data.toList = [c] := by
      match he : rs.data.toList with
      | [c] => exact ⟨c, rfl⟩
      | [] => rw [he] at hz; simp at hz; omega
      | a :: b :: t => rw [he] at hz; simp at hz; omega
    have hp : 0 < rs.size := by omega
    have hc0 : rs[0] = c := by
      have := head_at rs hp
      rw [hc] at this
      exact (Option.some.inj this).symm
    rw [hc] at hs
    unfold digitU at hs
    have hcc : (c.toNat : Int) < 48 ∨ ¬ (c.toNat : Int) < 48 ∧ 51 < (c.toNat : Int) := by
      simp only at hs
      split at hs
      · cases hs
      · omega
    rw [← hc0] at hcc
    have g1 : (rs.size : Int) = 1 := by omega
    clear hs hc hc0 hz
    rcases hcc with h2 | ⟨h2, h3⟩
    · go_enter Tryd.func28, Tryd.ntmps28
      go_wp2_with fail
      go_ret
      exact ⟨rfl, H.out⟩
    · go_enter Tryd.func28, Tryd.ntmps28
      go_wp2_with fail
      go_ret
      exact ⟨rfl, H.out⟩
  · have g1 : ¬ (rs.size : Int) = 1 := by omega
    clear hs hz
    go_enter Tryd.func28, Tryd.ntmps28
    go_wp2_with fail
    go_ret
    exact ⟨rfl, H.out⟩
theorem retry_yes (h : PU w0 K ub mb pb u w) (rs : ByteArray) (d : Nat) (hs : digitU rs.data.toList = some d) :
    Calls Tryd.prog 28 #[.pointer (some ⟨pb, 0, none⟩), .string rs] w fun e w' => e = .returned (.int .i64 (if u.retry.isSome then 9 else 0)) ∧ PU w0 K ub mb pb (if u.retry.isSome then u else { u with retry := some d }) w' := by
  have hz : rs.data.toList.length = rs.size := (Lib.size_eq rs).symm
  obtain ⟨c, hc⟩ : ∃ c, rs.data.toList = [c] := by
    revert hs
    unfold digitU
    split
    · rename_i c he
      exact fun _ => ⟨c, he⟩
    · intro hs; cases hs
  rw [hc] at hs hz
  have h1 : rs.size = 1 := by rw [← hz]; rfl
  have hp : 0 < rs.size := by omega
  have hc0 : rs[0] = c := by
    have := head_at rs hp
    rw [hc] at this
    exact (Option.some.inj this).symm
  unfold digitU at hs
  have hcc : 48 ≤ c.toNat ∧ c.toNat ≤ 51 ∧ d = c.toNat - 48 := by
    simp only at hs
    split at hs
    · rename_i hh
      injection hs with hs
      exact ⟨hh.1, hh.2, hs.symm⟩
    · cases hs
  rw [← hc0] at hcc
  obtain ⟨k1, k2, k3⟩ := hcc
  have g1 : (rs.size : Int) = 1 := by omega
  have g2 : ¬ (rs[0].toNat : Int) < 48 := by omega
  have g3 : ¬ 51 < (rs[0].toNat : Int) := by omega
  have g4 : (rs[0].toNat : Int) - 48 = d := by omega
  obtain ⟨p0, _, p2, pf⟩ := h.parser
  have pf2 := pf 2
  obtain ⟨_, nf⟩ := h.name
  have nf7 := nf 7
  have n7 := h.ret
  generalize retU u = ru at *
  clear pf nf hs hc hc0 hz h1 k1 k2 k3
  cases hu : u.retry.isSome with
  | true =>
    rw [if_pos rfl, if_pos rfl]
    rw [hu] at p2
    have H := Lib.hid h
    clear h hu
    go_enter Tryd.func28, Tryd.ntmps28
    go_wp2_with fail
    go_ret
    exact ⟨rfl, H.out⟩
  | false =>
    rw [if_neg (by decide), if_neg (by decide)]
    rw [hu] at p2
    have H := Lib.hid (h.drew.setRetry d)
    clear h hu
    go_enter Tryd.func28, Tryd.ntmps28
    go_wp2_with fail
    go_region
    go_wp2_with fail
    go_ret
    exact ⟨rfl, H.out⟩
end
end Go.Proofs.YtmnohaefklglfaaDoor
