/- What bytes say of an upgrade; names are taken. -/
import Derived.Test.YtjhaihckbmkiaaaDoorTx3
import Derived.Test.YtjhaihckbmkiaaaDoorSl1
import Derived.Deep.LoopGhost
namespace Go.Proofs.YtjhaihckbmkiaaaDoor
open Go.RowKit
set_option linter.unusedVariables false
set_option linter.unusedSimpArgs false
set_option maxRecDepth 100000

def nmT (zs : List Int) (bad : Bool) : ByteArray × List Int × Bool := (strOfNums (bodP 12 zs bad).1, (bodP 12 zs bad).2.1, (bodP 12 zs bad).2.2)
theorem nmT_len (zs : List Int) (bad : Bool) (h : 0 < zs.length) : (nmT zs bad).2.1.length < zs.length := (bodP_le 12 zs bad).2 h
theorem nmT_size (zs : List Int) (bad : Bool) : (nmT zs bad).1.size ≤ zs.length := by
  unfold nmT; dsimp only; rw [strNums_size]; exact bodP_fst_le ..
def mvT (zs : List Int) (bad : Bool) : MvD × List Int × Bool :=
  (⟨(numP 2 zs bad).1, strOfNums (bodP 40 (numP 2 zs bad).2.1 (numP 2 zs bad).2.2).1⟩, (bodP 40 (numP 2 zs bad).2.1 (numP 2 zs bad).2.2).2.1, (bodP 40 (numP 2 zs bad).2.1 (numP 2 zs bad).2.2).2.2)
theorem numP_lt (most : Int) (zs : List Int) (bad : Bool) (h : 0 < zs.length) : (numP most zs bad).2.1.length < zs.length := by
  unfold numP
  split
  · rename_i h4
    show (zs.drop 4).length < _
    rw [List.length_drop]; omega
  · exact h
theorem mvT_len (zs : List Int) (bad : Bool) (h : 0 < zs.length) : (mvT zs bad).2.1.length < zs.length := by
  have h1 := numP_lt 2 zs bad h
  have h2 := (bodP_le 40 (numP 2 zs bad).2.1 (numP 2 zs bad).2.2).1
  unfold mvT
  dsimp only
  omega
theorem mvT_size (zs : List Int) (bad : Bool) : (mvT zs bad).1.path.size ≤ zs.length := by
  unfold mvT; dsimp only; rw [strNums_size]
  have h1 := numP_len 2 zs bad
  have h2 := bodP_fst_le 40 (numP 2 zs bad).2.1 (numP 2 zs bad).2.2
  omega
/-- How bytes are taken: what is left behind each part. -/
def tu1 (zs : List Int) : List Int × Bool := (numP 4 zs false).2
def tu2 (zs : List Int) : List Int × Bool := (numP 40 (tu1 zs).1 (tu1 zs).2).2
def tu3 (zs : List Int) : List Int × Bool := outL (tu2 zs).1 (tu2 zs).2
def tu4 (zs : List Int) : List Int × Bool := outL (tu3 zs).1 (tu3 zs).2
def unT (zs : List Int) : TxD := ⟨(numP 4 zs false).1, (numP 40 (tu1 zs).1 (tu1 zs).2).1, tkT mvT (tu2 zs), tkT nmT (tu3 zs), tkT nmT (tu4 zs)⟩
theorem tu_len (zs : List Int) : (tu1 zs).1.length ≤ zs.length ∧ (tu2 zs).1.length ≤ zs.length ∧ (tu3 zs).1.length ≤ zs.length ∧ (tu4 zs).1.length ≤ zs.length := by
  have h1 : (tu1 zs).1.length ≤ zs.length := numP_len 4 zs false
  have h2 : (tu2 zs).1.length ≤ (tu1 zs).1.length := numP_len 40 (tu1 zs).1 (tu1 zs).2
  have h3 : (tu3 zs).1.length ≤ (tu2 zs).1.length := outL_len _ _
  have h4 : (tu4 zs).1.length ≤ (tu3 zs).1.length := outL_len _ _
  omega
theorem unT_parts (zs : List Int) (N : Nat) (hz : zs.length ≤ N) (D : TxD) (hD : D = unT zs) : ((∀ m ∈ D.moves, m.path.size ≤ N) ∧ D.moves.length ≤ N) ∧ ((∀ s ∈ D.come, s.size ≤ N) ∧ D.come.length ≤ N) ∧ ((∀ s ∈ D.gone, s.size ≤ N) ∧ D.gone.length ≤ N) := by
  obtain ⟨l1, l2, l3, l4⟩ := tu_len zs
  have e1 : D.moves = tkT mvT (tu2 zs) := by rw [hD]; rfl
  have e2 : D.come = tkT nmT (tu3 zs) := by rw [hD]; rfl
  have e3 : D.gone = tkT nmT (tu4 zs) := by rw [hD]; rfl
  rw [e1, e2, e3]
  exact ⟨tkT_all mvT (fun m => m.path.size ≤ N) N (fun ys bad hy => by have := mvT_size ys bad; omega) mvT_len (tu2 zs) (by omega), tkT_all nmT (fun s => s.size ≤ N) N (fun ys bad hy => by have := nmT_size ys bad; omega) nmT_len (tu3 zs) (by omega), tkT_all nmT (fun s => s.size ≤ N) N (fun ys bad hy => by have := nmT_size ys bad; omega) nmT_len (tu4 zs) (by omega)⟩
theorem unT_fits (zs : List Int) (hz : zs.length ≤ 1000) (D : TxD) (hD : D = unT zs) : TxFits D ∧ (packT D).length ≤ 1000000000 := by
  obtain ⟨⟨a1, a2⟩, ⟨b1, b2⟩, c1, c2⟩ := unT_parts zs 1000 hz D hD
  refine ⟨⟨by omega, fun m hm => by have := a1 m hm; omega, by omega, fun m hm => by have := b1 m hm; omega, by omega, fun m hm => by have := c1 m hm; omega⟩, ?_⟩
  rw [packT_len]
  have k1 := flat_le packM 1008 D.moves fun m hm => by rw [packM_len]; have := a1 m hm; omega
  have k2 := flat_le textB 1004 D.come fun m hm => by rw [textB_len]; have := b1 m hm; omega
  have k3 := flat_le textB 1004 D.gone fun m hm => by rw [textB_len]; have := c1 m hm; omega
  have m1 := Nat.mul_le_mul_right 1008 a2
  have m2 := Nat.mul_le_mul_right 1004 b2
  have m3 := Nat.mul_le_mul_right 1004 c2
  omega
set_option maxHeartbeats 8000000 in
theorem names_take {W0 : Base} {w : World} {L : List Rw} {r : Nat} {zs : List Int} {bad : Bool} (h : Rd W0 w L r zs bad) (hz : zs.length ≤ 100000000) :
    Calls Tryd.prog 16 #[.pointer (some ⟨r, 0, none⟩)] w fun e w' => ∃ v bad', e = .returned v ∧ Rd W0 w' (rowE 9 1 (fun s => [Value.string s]) v (runT nmT zs.length zs bad) :: L) r [] bad' := by
  have hT : (9 : TypeId) ≠ 5 := by decide
  have Hst := Lib.hid (show TkRel W0 L r 9 1 (fun s => [Value.string s]) nmT zs bad (.slice none 0 0) w from by
    obtain ⟨v, h1, h2⟩ := h
    exact ⟨[], zs, bad, zs.length, Rd.rowIn (h1.nil 9 1) h2, rfl, Nat.le_refl _, by simp⟩)
  obtain ⟨inf, hi0, hi1, hi2, hi3⟩ := info3 info_textE
  clear h
  go_enter Tryd.func16, Tryd.ntmps16
  go_wp2_with fail
  go_loopw [3] (fun v wr => TkRel W0 L r 9 1 (fun s => [Value.string s]) nmT zs bad v wr) (fun _ wr => leftA wr r)
  case atStart => exact Hst.out
  case round =>
    obtain ⟨ns, zs1, bad1, m, hR, hrun, hm, hns⟩ := hrel
    clear Hst
    have hmore := hR.more
    have Hleft := Lib.hid hR.left
    rcases Nat.eq_zero_or_pos zs1.length with h0 | h0
    · rw [decide_eq_false (by omega)] at hmore
      have hz1 : zs1 = [] := List.eq_nil_of_length_eq_zero h0
      rw [runT_nil nmT m zs1 bad1 h0, List.append_nil] at hrun
      obtain ⟨q, hq⟩ := id hR
      obtain ⟨fa, fc, hv, _, _⟩ := Own.sized (h := (show Own W0 wr (⟨9, 1, u3, ns.length, (ns.map (fun s => [Value.string s])).flatten⟩ :: rowR r q bad1 :: L) from hq.1.swap))
      subst hz1
      subst hv
      subst hrun
      have HR := Lib.hid hR
      clear hq hR hm hns h0
      generalize (runT nmT zs.length zs bad).length = ln at *
      go_wp2_with fail
      refine hmore.mono ?_
      rintro e w2 ⟨rfl, rfl⟩
      go_wp2_with fail
      go_ret
      exact ⟨_, bad1, rfl, HR.out⟩
    · rw [decide_eq_true h0] at hmore
      have hcall : Calls Tryd.prog 15 #[.pointer (some ⟨r, 0, none⟩), .int .i64 12] wr fun e w' => e = .returned (.string (nmT zs1 bad1).1) ∧ Rd W0 w' (rowE 9 1 (fun s => [Value.string s]) u3 ns :: L) r (nmT zs1 bad1).2.1 (nmT zs1 bad1).2.2 := hR.text 12
      have hlt := nmT_len zs1 bad1 h0
      obtain ⟨m2, hrs, hm2⟩ := runT_step nmT m zs1 bad1 h0 hm hlt
      rw [hrs] at hrun
      have Hb1 := Lib.hid (show ns.length + 1 ≤ maxLen by unfold maxLen; omega)
      have Hb2 := Lib.hid (show (ns.length + 1) * 16 ≤ 140737488355328 by omega)
      obtain ⟨q, hq⟩ := id hR
      obtain ⟨fa, fc, hv, _, _⟩ := Own.sized (h := (show Own W0 wr (⟨9, 1, u3, ns.length, (ns.map (fun s => [Value.string s])).flatten⟩ :: rowR r q bad1 :: L) from hq.1.swap))
      have Hrun := Lib.hid hrun
      have Hlt := Lib.hid (show (nmT zs1 bad1).2.1.length < leftA wr r by rw [Hleft.out]; exact hlt)
      have Hm2 := Lib.hid hm2
      have Hns := Lib.hid (show (ns.length + 1) + (nmT zs1 bad1).2.1.length ≤ zs.length by omega)
      subst hv
      clear hq hR hrun hrs hm hm2 hns hlt Hleft h0
      generalize nmT zs1 bad1 = X at *
      obtain ⟨x, rest, bad2⟩ := X
      dsimp only at *
      go_wp2_with fail
      refine hmore.mono ?_
      rintro e w2 ⟨rfl, rfl⟩
      go_wp2_with fail
      refine hcall.mono ?_
      rintro e w3 ⟨rfl, h3⟩
      obtain ⟨vr, h4, hp4⟩ := h3.rowOut hT
      have HO := Lib.hid (show Own W0 (w3.alloc (.cells #[Value.string x] 9)) (⟨9, 1, .slice fa ns.length fc, ns.length, (ns.map (fun s => [Value.string s])).flatten⟩ :: rowR r vr bad2 :: L) from h4.alloc _)
      have Hsrc := Lib.hid (src_oneA w3 (.string x) 9 rfl)
      have Hp4 := Lib.hid hp4
      clear hcall hmore h3 h4 hp4
      obtain ⟨xs, hxs⟩ : ∃ xs, (ns.map (fun s => [Value.string s])).flatten = xs := ⟨_, rfl⟩
      rw [hxs] at HO
      have Hxs := Lib.hid hxs
      clear hxs
      go_wp2_with (at_builtin; refine wpList_append_src rfl (.tmp 6) (.tmp 9) 25 rfl (.slice fa ns.length fc) ns.length xs (.slice (some ⟨w3.heap.size, 0, none⟩) 1 1) 1 [Value.string x] rfl rfl HO.out inf (.string ⟨#[]⟩) 16 Tryd.underlying25 hi0 hi1 hi2 hi3 rfl (by decide) Hsrc.out rfl Hb1.out Hb2.out ?_)
      intro v9 w9 hO9
      have HX := Lib.hid (show TkRel W0 L r 9 1 (fun s => [Value.string s]) nmT zs bad v9 w9 ∧ leftA w9 r < leftA wr r from by
        have hR9 : Rd W0 w9 (rowE 9 1 (fun s => [Value.string s]) v9 (ns ++ [x]) :: L) r rest bad2 := by
          refine Rd.rowIn ?_ Hp4.out
          have e : rowE 9 1 (fun s => [Value.string s]) v9 (ns ++ [x]) = ⟨9, 1, v9, ns.length + 1, xs ++ [Value.string x]⟩ := by
            unfold rowE
            rw [← Hxs.out]
            simp
          rw [e]; exact hO9
        exact ⟨⟨ns ++ [x], rest, bad2, m2, hR9, by rw [Hrun.out]; simp, Hm2.out, by have := Hns.out; simp; omega⟩, by rw [hR9.left]; exact Hlt.out⟩)
      obtain ⟨a9, c9, hv9, _, _⟩ := Own.sized (h := hO9)
      subst hv9
      clear hO9 HO Hsrc Hb1 Hb2 Hxs Hp4 Hrun Hlt Hm2 Hns
      go_wp2_with fail
      go_roundw
      case rel => exact HX.out.1
      case measure => exact HX.out.2
end Go.Proofs.YtjhaihckbmkiaaaDoor
