/- The document's New. -/
import Derived.Test.YthmcdmnjjofehaaDPut2
namespace Go.Proofs.Ythmcdmnjjofehaa
open Go.RowKit
set_option linter.unusedVariables false
set_option linter.unusedSimpArgs false

def rfNew (n : Nat) : Rf := { kept := List.replicate n zSec, cache := [], down := false, fate := -1, keeps := 0, steps := 0 }
theorem rfNew_ok (n : Nat) (h0 : 0 < n) (h1 : n ≤ 4096) : (rfNew n).Ok := by
  refine ⟨by simpa [rfNew] using h0, by simpa [rfNew] using h1, fun s hs => ?_, (fun p hp => by cases hp), Nat.zero_le _⟩
  rw [(List.mem_replicate.1 hs).2]; exact zSec_sec
theorem rep_snoc (k : Nat) : (List.replicate k zSec).flatten ++ zSec = (List.replicate (k + 1) zSec).flatten := by
  rw [List.replicate_succ', List.flatten_append]; simp
theorem built_ref : Try.prog.built 30 [(3, .int .i64 (-1))] = some #[.slice none 0 0, .slice none 0 0, .bool false, .int .i64 (-1), .int .u64 0, .int .i64 0] := by kernel_rfl
/-- A sector more. -/
theorem new_more {W0 w : World} {v v' : Value} {k g H1 : Nat} {x1 x2 x3 x4 x5 : Value} {r : Rw} {L : List Rw} (h : Own W0 w (⟨37, 64, v', k + 1, (List.replicate k zSec).flatten ++ zSec⟩ :: rSec g zSec :: rBox H1 [v, x1, x2, x3, x4, x5] :: r :: L)) :
    Own W0 (w.setCell ⟨H1, 0, none⟩ v') (rBox H1 [v', x1, x2, x3, x4, x5] :: rA v' (List.replicate (k + 1) zSec) :: r :: L) := by
  rw [rep_snoc] at h
  have h1 : Own W0 w (rA v' (List.replicate (k + 1) zSec) :: rSec g zSec :: rBox H1 [v, x1, x2, x3, x4, x5] :: r :: L) := by unfold rA; rw [List.length_replicate]; exact h
  have h2 : Own W0 (w.setCell ⟨H1, 0, none⟩ v') (rBox H1 [v', x1, x2, x3, x4, x5] :: rA v' (List.replicate (k + 1) zSec) :: rSec g zSec :: r :: L) := Own.set (h := h1.third) 0 v'
  have hs : (rBox H1 [v', x1, x2, x3, x4, x5] :: rA v' (List.replicate (k + 1) zSec) :: r :: L).Sublist (rBox H1 [v', x1, x2, x3, x4, x5] :: rA v' (List.replicate (k + 1) zSec) :: rSec g zSec :: r :: L) := .cons_cons _ (.cons_cons _ (.cons _ (List.Sublist.refl _)))
  exact ⟨h2.below, fun p hp => h2.rows p (hs.subset hp), h2.apart.sublist hs⟩

def NewRef (W0 : World) (n : Nat) (L : List Rw) (e : Ending) (w' : World) : Prop :=
  ∃ a', e = .returned (.agg (refCells a' (.slice none 0 0) (rfNew n)).toArray) ∧ Own W0 w' (rA a' (rfNew n).kept :: rB (.slice none 0 0) (rfNew n).cache :: L)

set_option maxHeartbeats 3200000 in
set_option maxRecDepth 100000 in
theorem ref_new (W0 w : World) (L : List Rw) (m : Nat) (hm : m ≤ 4096) (h : Own W0 w L) :
    Calls Try.prog 9 #[.int .i64 (m : Int)] w (NewRef W0 (max 1 m) L) := by
  have hz := zero_ref
  have hir := info_r
  have hb64 := built_64
  have hbr := built_ref
  obtain ⟨i0, hi, hz0, hz1, hz2⟩ := info_parts info_a
  obtain ⟨N, hN⟩ : ∃ N, max 1 m = N := ⟨_, rfl⟩
  rw [hN]
  have hN1 : m ≤ N := by omega
  have hN2 : 1 ≤ N := by omega
  have hN3 : N ≤ m ∨ N ≤ 1 := by omega
  clear hN
  obtain ⟨H, hH⟩ : ∃ H, w.heap.size = H := ⟨_, rfl⟩
  have hO := ((h.box zRef rfl H hH.symm).box [.slice none 0 0, .slice none 0 0, .bool false, .int .i64 (-1), .int .u64 0, .int .i64 0] rfl (H + 1) (by simp [hH]))
  have HO := Lib.hid ((hO.nil 37 64).swap)
  unfold zRef at HO
  clear hO
  go_enter Try.func9, Try.ntmps9
  go_wp2_with (refine wpList_build rfl 30 _ rfl [(3, .int .i64 (-1))] rfl _ hbr ?_)
  go_loopw [4] (fun t wr => ∃ (k : Nat) (v : Value), k ≤ N ∧ t = .int .i64 k ∧ Own W0 wr (rBox (H + 1) [v, .slice none 0 0, .bool false, .int .i64 (-1), .int .u64 0, .int .i64 0] :: rA v (List.replicate k zSec) :: rBox H zRef :: L)) (fun t _ => N - (intOf t).toNat)
  case atStart => exact ⟨0, _, Nat.zero_le _, rfl, HO.out⟩
  case round =>
    obtain ⟨k, v, hk, rfl, hO⟩ := hrel
    obtain ⟨⟨c0, c1, c2, c3, c4, c5⟩, _, hlt⟩ := box6 hO (List.mem_cons_self ..)
    by_cases hkN : k < N
    · have hA := hO.sec zSec rfl wr.heap.size rfl
      have hsrc := Own.src (h := hA) zSec_sec.2
      have HA := Lib.hid hA.third
      have Hsrc := Lib.hid hsrc
      clear hA hsrc hO HO
      by_cases h1 : k < m
      · have t1 : decide (k < m) = true := by simpa using h1
        have t2 : k < 4096 := by omega
        go_wp2_with (first
          | (refine wpList_build rfl 37 #[] rfl [] rfl _ hb64 ?_)
          | (refine wpList_buildSlice_one rfl 26 (.tmp 21) rfl 37 64 i0 (.agg zSec.toArray) Try.underlying26 hi hz1 hz0 zSec_size (by decide) (by decide) zSec rfl rfl ?_)
          | (at_builtin; refine wpList_append_src rfl (.tmp 20) (.tmp 22) 26 rfl v (List.replicate k zSec).length (List.replicate k zSec).flatten (.slice (some ⟨wr.heap.size, 0, none⟩) 1 1) 1 zSec rfl rfl HA.out i0 (.agg zSec.toArray) 64 Try.underlying26 hi hz0 hz1 hz2 zSec_size (by decide) Hsrc.out rfl (by rw [List.length_replicate]; unfold maxLen; omega) (by rw [List.length_replicate]; omega) ?_))
        intro v' w' hO'
        obtain ⟨g4, k4, rfl, _, _⟩ := hO'.form (by omega)
        obtain ⟨⟨e0, _⟩, ⟨fz0, _⟩, hlt'⟩ := box6 hO' (by simp : rBox (H + 1) [v, .slice none 0 0, .bool false, .int .i64 (-1), .int .u64 0, .int .i64 0] ∈ _)
        have HN := Lib.hid (new_more hO')
        clear hO'
        go_wp2_with fail
        exact ⟨⟨k + 1, _, by omega, by go_num, HN.out⟩, by simp [intOf]; omega⟩
      · have t1 : decide (k < m) = false := by simpa using h1
        have t2 : k < 1 := by omega
        go_wp2_with (first
          | (refine wpList_build rfl 37 #[] rfl [] rfl _ hb64 ?_)
          | (refine wpList_buildSlice_one rfl 26 (.tmp 21) rfl 37 64 i0 (.agg zSec.toArray) Try.underlying26 hi hz1 hz0 zSec_size (by decide) (by decide) zSec rfl rfl ?_)
          | (at_builtin; refine wpList_append_src rfl (.tmp 20) (.tmp 22) 26 rfl v (List.replicate k zSec).length (List.replicate k zSec).flatten (.slice (some ⟨wr.heap.size, 0, none⟩) 1 1) 1 zSec rfl rfl HA.out i0 (.agg zSec.toArray) 64 Try.underlying26 hi hz0 hz1 hz2 zSec_size (by decide) Hsrc.out rfl (by rw [List.length_replicate]; unfold maxLen; omega) (by rw [List.length_replicate]; omega) ?_))
        intro v' w' hO'
        obtain ⟨g4, k4, rfl, _, _⟩ := hO'.form (by omega)
        obtain ⟨⟨e0, _⟩, ⟨fz0, _⟩, hlt'⟩ := box6 hO' (by simp : rBox (H + 1) [v, .slice none 0 0, .bool false, .int .i64 (-1), .int .u64 0, .int .i64 0] ∈ _)
        have HN := Lib.hid (new_more hO')
        clear hO'
        go_wp2_with fail
        exact ⟨⟨k + 1, _, by omega, by go_num, HN.out⟩, by simp [intOf]; omega⟩
    · obtain rfl : k = N := by omega
      have t1 : decide (k < m) = false := by simp; omega
      have t2 : ¬ k < 1 := by omega
      obtain ⟨a', k', c', rfl⟩ : ∃ a k c, v = .slice a k c := by
        rcases hO.swap.head.2 with ⟨h2, _⟩ | ⟨g, cp, cur, h2, _⟩
        · exact ⟨_, _, _, h2⟩
        · exact ⟨_, _, _, h2⟩
      obtain ⟨⟨d0, d1, d2, d3, d4, d5⟩, ⟨f0, f1, f2, f3, f4, f5⟩, hltH⟩ := box6 hO (by simp [zRef] : rBox H [.slice none 0 0, .slice none 0 0, .bool false, .int .i64 0, .int .u64 0, .int .i64 0] ∈ _)
      have HS := Lib.hid (hO.third.boxSet (refCells (.slice a' k' c') (.slice none 0 0) (rfNew k)) rfl)
      clear hO HO
      go_wp2_with fail
      have cr := HS.out.boxRange rfl
      refine bodyPost_ret (v := .agg (refCells (.slice a' k' c') (.slice none 0 0) (rfNew k)).toArray) (ret_cell Try.results9 rfl cr Try.underlying30 rfl hir) rfl ?_
      exact ⟨.slice a' k' c', rfl, (HS.out.tail.tail.nil _ _).swap⟩
end Go.Proofs.Ythmcdmnjjofehaa
