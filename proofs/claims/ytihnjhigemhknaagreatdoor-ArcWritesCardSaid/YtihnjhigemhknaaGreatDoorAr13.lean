/- Files are taken. -/
import Derived.Test.YtihnjhigemhknaaGreatDoorAr12
namespace Go.Proofs.YtihnjhigemhknaaGreatDoor
open Go.RowKit
set_option linter.unusedVariables false
set_option linter.unusedSimpArgs false
set_option maxRecDepth 100000

theorem Rd.perm {W0 : Base} {w : World} {A B : List Rw} {r : Nat} {zs : List Int} {bad : Bool} (h : Rd W0 w A r zs bad) (hp : A.Perm B) : Rd W0 w B r zs bad := by
  obtain ⟨v, h1, h2⟩ := h
  exact ⟨v, h1.perm (hp.cons _), h2.mono fun x hx => hp.mem_iff.1 hx⟩
theorem Pc.exact {L : List Rw} {a : Option Addr} {n c : Nat} {zs : List Int} (h : Pc L (.slice a n c) zs) : n = zs.length := by
  obtain ⟨a', c', e, _⟩ := h
  injection e
def trip (f : FileD) : ByteArray × Bool × List Int := (f.path, f.config, f.data)
def TkF (W0 : Base) (L : List Rw) (r : Nat) (zs0 : List Int) (bad0 : Bool) (v : Value) (wr : World) : Prop :=
  ∃ (fs : List FileD) (L1 : List Rw) (zs : List Int) (bad : Bool) (m : Nat), Rd W0 wr (rowE 51 3 FileD.cells v fs :: (L1 ++ L)) r zs bad ∧ (∀ f ∈ fs, Pc L1 (.slice f.a f.data.length f.c) f.data) ∧ runT fileT zs0.length zs0 bad0 = fs.map trip ++ runT fileT m zs bad ∧ zs.length ≤ m ∧ fs.length + zs.length ≤ zs0.length
theorem info_fileE : (Tryz.prog.info? 51).map (fun i => (i.zero, i.size, i.bytes)) = some (some (.agg #[.string ⟨#[]⟩, .bool false, .slice none 0 0]), 3, 48) := by kernel_rfl
set_option maxHeartbeats 8000000 in
theorem file_take {W0 : Base} {w : World} {L : List Rw} {r : Nat} {zs : List Int} {bad : Bool} (h : Rd W0 w L r zs bad) (hz : zs.length ≤ 100000000) :
    Calls Tryz.prog 60 #[.pointer (some ⟨r, 0, none⟩), .func (.func 61) #[] #[]] w fun e w' => ∃ v fs L1 bad', e = .returned v ∧ Rd W0 w' (rowE 51 3 FileD.cells v fs :: (L1 ++ L)) r [] bad' ∧ fs.map trip = runT fileT zs.length zs bad ∧ (∀ f ∈ fs, Pc L1 (.slice f.a f.data.length f.c) f.data) ∧ fs.length ≤ zs.length := by
  have hT : (51 : TypeId) ≠ 5 := by decide
  have Hst := Lib.hid (show TkF W0 L r zs bad (.slice none 0 0) w from by
    obtain ⟨v, h1, h2⟩ := h
    exact ⟨[], [], zs, bad, zs.length, Rd.rowIn (h1.nil 51 3) h2, (fun f hf => nomatch hf), rfl, Nat.le_refl _, by simp⟩)
  obtain ⟨inf, hi0, hi1, hi2, hi3⟩ := info3 info_fileE
  clear h
  go_enter Tryz.func60, Tryz.ntmps60
  go_wp2_with fail
  go_loopw [5] (fun v wr => TkF W0 L r zs bad v wr) (fun _ wr => leftA wr r)
  case atStart => exact Hst.out
  case round =>
    obtain ⟨fs, L1, zs1, bad1, m, hR, hpc, hrun, hm, hns⟩ := hrel
    clear Hst
    have hmore := hR.more
    have Hleft := Lib.hid hR.left
    obtain ⟨q, hq⟩ := id hR
    obtain ⟨fa, fc, hv, _, _⟩ := Own.sized (h := (show Own W0 wr (⟨51, 3, u5, fs.length, (fs.map FileD.cells).flatten⟩ :: rowR r q bad1 :: (L1 ++ L)) from hq.1.swap))
    subst hv
    clear hq
    rcases Nat.eq_zero_or_pos zs1.length with h0 | h0
    · rw [decide_eq_false (by omega)] at hmore
      have hz1 : zs1 = [] := List.eq_nil_of_length_eq_zero h0
      rw [runT_nil fileT m zs1 bad1 h0, List.append_nil] at hrun
      subst hz1
      have HR := Lib.hid hR
      have Hpc := Lib.hid hpc
      have Hrun := Lib.hid hrun
      have Hns := Lib.hid (show fs.length ≤ zs.length by omega)
      clear hR hpc hrun hm hns h0
      generalize hln : fs.length = ln at HR ⊢
      have Hln := Lib.hid hln
      clear hln
      go_wp2_with fail
      refine hmore.mono ?_
      rintro e w2 ⟨rfl, rfl⟩
      go_wp2_with fail
      go_ret
      exact ⟨_, fs, L1, bad1, rfl, HR.out, Hrun.out.symm, Hpc.out, Hns.out⟩
    · rw [decide_eq_true h0] at hmore
      have hcall := afile_any hR
      have hlt := fileT_len zs1 bad1 h0
      obtain ⟨m2, hrs, hm2⟩ := runT_step fileT m zs1 bad1 h0 hm hlt
      rw [hrs] at hrun
      have Hb1 := Lib.hid (show fs.length + 1 ≤ maxLen by unfold maxLen; omega)
      have Hb2 := Lib.hid (show (fs.length + 1) * 48 ≤ 140737488355328 by omega)
      have Hrun := Lib.hid hrun
      have Hlt := Lib.hid (show (fileT zs1 bad1).2.1.length < leftA wr r by rw [Hleft.out]; exact hlt)
      have Hm2 := Lib.hid hm2
      have Hns := Lib.hid (show (fs.length + 1) + (fileT zs1 bad1).2.1.length ≤ zs.length by omega)
      have Hpc := Lib.hid hpc
      clear hR hrun hrs hm hm2 hns hlt Hleft h0 hpc
      generalize fileT zs1 bad1 = X at *
      obtain ⟨⟨p, cf, d⟩, rest, bad2⟩ := X
      dsimp only at *
      go_wp2_with fail
      refine hmore.mono ?_
      rintro e w2 ⟨rfl, rfl⟩
      go_wp2_with fail
      refine hcall.mono ?_
      rintro e w3 ⟨a, n, c, L2, rfl, h3, hp3⟩
      obtain rfl := hp3.exact
      have h3' := h3.perm (List.perm_middle (l₁ := L2))
      obtain ⟨vr, h4, hp4⟩ := h3'.rowOut hT
      have HO := Lib.hid (show Own W0 (w3.alloc (.cells #[Value.string p, .bool cf, .slice a d.length c] 51)) (⟨51, 3, .slice fa fs.length fc, fs.length, (fs.map FileD.cells).flatten⟩ :: rowR r vr bad2 :: (L2 ++ (L1 ++ L))) from h4.alloc _)
      have Hsrc := Lib.hid (src_three w3 (.string p) (.bool cf) (.slice a d.length c) 51 rfl rfl rfl)
      have Hp4 := Lib.hid hp4
      have Hp3 := Lib.hid hp3
      clear hcall hmore h3 h3' h4 hp4 hp3
      obtain ⟨xs, hxs⟩ : ∃ xs, (fs.map FileD.cells).flatten = xs := ⟨_, rfl⟩
      rw [hxs] at HO
      have Hxs := Lib.hid hxs
      clear hxs
      go_wp2_with (at_builtin; refine wpList_append_src rfl (.tmp 8) (.tmp 12) 24 rfl (.slice fa fs.length fc) fs.length xs (.slice (some ⟨w3.heap.size, 0, none⟩) 1 1) 1 [Value.string p, .bool cf, .slice a d.length c] rfl rfl HO.out inf (.agg #[.string ⟨#[]⟩, .bool false, .slice none 0 0]) 48 Tryz.underlying24 hi0 hi1 hi2 hi3 rfl (by decide) Hsrc.out rfl Hb1.out Hb2.out ?_)
      intro v9 w9 hO9
      have HX := Lib.hid (show TkF W0 L r zs bad v9 w9 ∧ leftA w9 r < leftA wr r from by
        have hR9 : Rd W0 w9 (rowE 51 3 FileD.cells v9 (fs ++ [(⟨p, cf, a, c, d⟩ : FileD)]) :: ((L2 ++ L1) ++ L)) r rest bad2 := by
          rw [List.append_assoc]
          refine Rd.rowIn ?_ Hp4.out
          have e : rowE 51 3 FileD.cells v9 (fs ++ [(⟨p, cf, a, c, d⟩ : FileD)]) = ⟨51, 3, v9, fs.length + 1, xs ++ [Value.string p, .bool cf, .slice a d.length c]⟩ := by
            unfold rowE
            rw [← Hxs.out]
            simp [FileD.cells]
          rw [e]; exact hO9
        refine ⟨⟨fs ++ [(⟨p, cf, a, c, d⟩ : FileD)], L2 ++ L1, rest, bad2, m2, hR9, fun f hf => ?_, by rw [Hrun.out]; simp [trip], Hm2.out, by have := Hns.out; simp; omega⟩, by rw [hR9.left]; exact Hlt.out⟩
        rcases List.mem_append.1 hf with hf | hf
        · exact (Hpc.out f hf).mono fun x hx => List.mem_append_right _ hx
        · rw [List.mem_singleton.1 hf]
          exact Hp3.out.mono fun x hx => List.mem_append_left _ hx)
      obtain ⟨a9, c9, hv9, _, _⟩ := Own.sized (h := hO9)
      subst hv9
      clear hO9 HO Hsrc Hb1 Hb2 Hxs Hp4 Hp3 Hrun Hlt Hm2 Hns Hpc
      go_wp2_with fail
      go_roundw
      case rel => exact HX.out.1
      case measure => exact HX.out.2
end Go.Proofs.YtihnjhigemhknaaGreatDoor
