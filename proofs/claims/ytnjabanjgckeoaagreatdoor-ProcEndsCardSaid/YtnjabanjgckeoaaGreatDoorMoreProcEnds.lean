/- Texts one behind the other, each in a section of its own: what calls make of memory, step by step. -/
import Derived.Test.YtnjabanjgckeoaaGreatDoorPackMgrRetries19
import Derived.Deep.Slices
import Derived.Lib.SmallJoins
import Derived.WideShapes
import Derived.ProofKit
import Derived.Deep.RegionHeld3
import Derived.Deep.DeepCutAuto
import Derived.Deep.CutBlock

section
namespace Go.Proofs.YtnjabanjgckeoaaGreatDoor
open Go.RowKit
open Go.ChangeMaps (setBlock)
set_option linter.unusedVariables false
set_option linter.unusedSimpArgs false
set_option maxRecDepth 100000

section
variable {w0 w w' : World} {S S' S1 : Blocks} {R L L' L1 M : List Rw} {v c n d t b : Nat} {T T' Tc T1 : Tr} {K : Blocks} {sv : Value} {zs : List Int} {E : Et} {B : Nat} {ops : List OpD} {xs : List OpE} {C : Array Value}
/-- Operations that are written out. -/
theorem Ops.lit (hb : (b, .cells C 84) ∈ S) (hC : C.toList = (ops.map OpD.cells).flatten) (hlen : xs.length = ops.length) (hin : ∀ i (h : i < ops.length), OpIn w0 S L ops[i] (xs[i]'(by omega))) : Ops w0 S L (some ⟨b, 0, none⟩) ops xs := by
  refine ⟨hlen, fun w' S' L' k1 k2 k3 i hi => ⟨b, 0, rfl, fun j u hj => ?_⟩, hin⟩
  have hj4 : j < 4 := by
    have := (List.getElem?_eq_some_iff.1 hj).1
    exact this
  rw [k1.cellB (k2 _ _ hb), ← Array.getElem?_toList, hC, Nat.zero_add, flatO _ i j hi hj4]
  exact hj
theorem op_bytesV (k : Int) (p q : ByteArray) (hp : p.size ≤ 1000) (hq : q.size ≤ 1000) {a : Option Addr} {n c : Nat} (hn : n = zs.length) (hd : Byo w0 S [] L (.slice a n c) zs) : OpIn w0 S L ⟨k, p, q, a, n, c⟩ ⟨k, p.data.toList, q.data.toList, zs⟩ :=
  ⟨rfl, rfl, rfl, by unfold maxLen; show p.size ≤ _; omega, by unfold maxLen; show q.size ≤ _; omega, hn, hd⟩
end
end Go.Proofs.YtnjabanjgckeoaaGreatDoor
end

section
namespace Go.Proofs.YtnjabanjgckeoaaGreatDoor
open Go.RowKit
open Go.ChangeMaps (setBlock)
set_option linter.unusedVariables false
set_option linter.unusedSimpArgs false
set_option maxRecDepth 100000

theorem do_O : DoE (E0 2000) [⟨2, pFa, [], [97]⟩, ⟨2, pFb, [], []⟩, ⟨0, pFd, [], []⟩, ⟨2, pFc, [], []⟩] = (0, EO) := by rfl
theorem loose_O : looseE EO.nodes = [] := by rfl
theorem len_O : (recB2 recL).length = 76 := by rfl
theorem byts97 : Byts [97] := by unfold Byts; decide
section
variable {w0 w w' : World} {S S' S1 : Blocks} {R L L' L1 M : List Rw} {v c n d t b : Nat} {X : VX} {T T' Tc T1 : Tr} {K : Blocks}
theorem mem_opsO {a : Option Addr} {cp : Nat} {o : OpD} (h : o ∈ opsO a cp) : (0 ≤ o.kind ∧ o.kind < 4294967296) ∧ (o.p.size ≤ 100000 ∧ o.q.size ≤ 100000) ∧ o.q = ⟨#[]⟩ := by
  simp only [opsO, List.mem_cons, List.not_mem_nil, or_false] at h
  rcases h with rfl | rfl | rfl | rfl
  · exact ⟨by show (0 : Int) ≤ 2 ∧ (2 : Int) < 4294967296; decide, by show (toB pFa).size ≤ 100000 ∧ (0 : Nat) ≤ 100000; decide, rfl⟩
  · exact ⟨by show (0 : Int) ≤ 2 ∧ (2 : Int) < 4294967296; decide, by show (toB pFb).size ≤ 100000 ∧ (0 : Nat) ≤ 100000; decide, rfl⟩
  · exact ⟨by show (0 : Int) ≤ 0 ∧ (0 : Int) < 4294967296; decide, by show (toB pFd).size ≤ 100000 ∧ (0 : Nat) ≤ 100000; decide, rfl⟩
  · exact ⟨by show (0 : Int) ≤ 2 ∧ (2 : Int) < 4294967296; decide, by show (toB pFc).size ≤ 100000 ∧ (0 : Nat) ≤ 100000; decide, rfl⟩
theorem vdo_O (h : VolIn w0 S R L v X T w) (hm : Mx w0) {a : Option Addr} {cp cap : Nat} (hb : (b, .cells #[.int .i64 2, .string (toB pFa), .string ⟨#[]⟩, .slice a 1 cp, .int .i64 2, .string (toB pFb), .string ⟨#[]⟩, .slice none 0 0, .int .i64 0, .string (toB pFd), .string ⟨#[]⟩, .slice none 0 0, .int .i64 2, .string (toB pFc), .string ⟨#[]⟩, .slice none 0 0] 84) ∈ S) (hd : Byo w0 S [] L (.slice a 1 cp) [97]) (hX : X.E = E0 2000) (hB : X.B = 0) (hu : X.used = 0) (hh : 49 ≤ X.h) (hst : X.st = 3) :
    Calls Tryz.prog 37 #[.pointer (some ⟨v, 0, none⟩), .slice (some ⟨b, 0, none⟩) 4 cap] w fun e w' => e = .returned (.int .i64 0) ∧ ∃ D', VolTo w0 S L v X T w.heap.size { X with E := EO, B := 4, D := D', used := 2, recs := X.recs ++ [recB2 recL], st := 103 } w' := by
  have hrec : recO (pks (opsO a cp) xsO) = recB2 recL := by
    show 111 :: packsD _ = 111 :: packsB _
    rw [packsD_B]; rfl
  have hE : DoE (E0 2000) xsO = (0, EO) := do_O
  have := vdo_yes h hm (ops := opsO a cp) (xs := xsO) (Ops.lit (b := b) hb rfl rfl (fun i hi => by
    match i, hi with
    | 0, _ => exact op_bytesV 2 (toB pFa) ⟨#[]⟩ (by decide) (by decide) rfl hd
    | 1, _ => exact op_noneV 2 (toB pFb) ⟨#[]⟩ (by decide) (by decide)
    | 2, _ => exact op_noneV 0 (toB pFd) ⟨#[]⟩ (by decide) (by decide)
    | 3, _ => exact op_noneV 2 (toB pFc) ⟨#[]⟩ (by decide) (by decide)
    | n + 4, h => exact absurd h (by simp [opsO]))) cap (fun o ho => (mem_opsO ho).1) (fun o ho => (mem_opsO ho).2.1) (fun x hx => by
      simp only [xsO, List.mem_cons, List.not_mem_nil, or_false] at hx
      rcases hx with rfl | rfl | rfl | rfl <;> decide) (fun o ho => .inr (.inr (mem_opsO ho).2.2)) (by show 0 < 4; decide) (by rw [hB]; show 0 + 4 ≤ 100000; decide) (by rw [hX, hE]) (by rw [hrec, len_O]; decide) (by rw [hrec, len_O, hu]; unfold roomM; omega) (by omega) (by rw [hX, hE, loose_O]; intro i hi; cases hi)
  refine this.mono fun e w' hd2 => ?_
  obtain ⟨e1, D', k⟩ := hd2
  refine ⟨e1, D', ?_⟩
  unfold doneX at k
  rw [hrec, len_O, hX, hE, hB, hu, hst] at k
  exact k
end
set_option maxHeartbeats 8000000 in
theorem popen_any (w : World) (hm : Mx w) : Calls Tryz.prog 8 #[] w fun e w' => ∃ v X, e = .returned (.pointer (some ⟨v, 0, none⟩)) ∧ VolAt w w' [] [] v X ∧ X.E = EO ∧ X.held = [] := by
  have hnew := new_pos w w [] 500 (Own.start w) (by decide) (by decide)
  go_enter Tryz.func8, Tryz.ntmps8
  go_wp2_with fail
  refine hnew.mono ?_
  rintro e w1 ⟨d, rfl, hA1⟩
  have hop := vopen_new (w0 := w) (S := []) (L := []) hA1 (by decide) (by decide) 2000 (by decide)
  clear hnew hA1
  go_wp2_with fail
  refine hop.mono ?_
  rintro e w2 ⟨v, t, l, hmb, D, S1, R1, T1, rfl, h1, _, _⟩
  have c0 : w2.cell? ⟨v, 0, none⟩ = some (.pointer (some ⟨t, 0, none⟩)) := h1.atV.1.1
  have hO3 := (h1.own.newB lit1).newB (.cells #[.int .i64 2, .string (toB pFa), .string ⟨#[]⟩, .slice (some ⟨w2.heap.size, 0, none⟩) 1 1, .int .i64 2, .string (toB pFb), .string ⟨#[]⟩, .slice none 0 0, .int .i64 0, .string (toB pFd), .string ⟨#[]⟩, .slice none 0 0, .int .i64 2, .string (toB pFc), .string ⟨#[]⟩, .slice none 0 0] 84)
  rw [show (w2.alloc lit1).heap.size = w2.heap.size + 1 by simp] at hO3
  have h3 := h1.base hO3 (fun b x hx _ => List.mem_cons_of_mem _ (List.mem_cons_of_mem _ hx))
  have hdo := vdo_O h3 hm (cp := 1) (cap := 4) (b := w2.heap.size + 1) (List.mem_cons_self ..) (.inr (.inr ⟨w2.heap.size, _, _, _, List.mem_cons_of_mem _ (List.mem_cons_self ..), (by simp), rfl, rfl, byts97, by decide⟩)) rfl rfl rfl (by show 49 ≤ (500 - 2) / 2; decide) rfl
  have hcs := conv_constL w2 #[.int .u8 97] 1 1
  clear hop h1 hO3 h3
  go_wp2_with fail
  refine hdo.mono ?_
  rintro e w3 ⟨rfl, D3, S3, R3, L3, T3, h4, _, _, _, _, _⟩
  have HP := Lib.hid (show ∃ v' X, Ending.returned (.pointer (some ⟨v, 0, none⟩)) = .returned (.pointer (some ⟨v', 0, none⟩)) ∧ VolAt w w3 [] [] v' X ∧ X.E = EO ∧ X.held = [] from ⟨v, _, rfl, ⟨S3, R3, L3, T3, h4, (fun x hx => by cases hx), fun b x hb => by cases hb⟩, rfl, rfl⟩)
  clear hdo hcs c0 h4
  go_wp2_with fail
  go_ret
  exact HP.out
end Go.Proofs.YtnjabanjgckeoaaGreatDoor
end

section
namespace Go.Proofs.YtnjabanjgckeoaaGreatDoor
open Go.RowKit
open Go.ChangeMaps (setBlock)
set_option linter.unusedVariables false
set_option linter.unusedSimpArgs false
set_option maxRecDepth 100000

section
variable {w0 w w' : World} {S S' S1 : Blocks} {R L L' L1 M L0 : List Rw} {v c n d : Nat} {X X' X1 X2 : VX} {T T' Tc T1 : Tr} {Y Y' : Tab} {K K' : Blocks} {fv : Value} {acc : List Int}
theorem VT.newK (h : VT w0 K L0 v X Y w) (o : Obj) : VT w0 ((w.heap.size, o) :: K) L0 v X Y (w.alloc o) := by
  obtain ⟨S, R, L, T, h1, h2, h3, h4, h5⟩ := h
  have hO := h1.own.newB o
  refine ⟨(w.heap.size, o) :: S, R, L, T, h1.base hO fun b x hx _ => List.mem_cons_of_mem _ hx, h2.mono (fun b x _ hx => List.mem_cons_of_mem _ hx) (fun _ hx => hx), h3, h4, fun b x hb => ?_⟩
  rcases List.mem_cons.1 hb with e | hb
  · obtain ⟨rfl, rfl⟩ := Prod.mk.inj e
    exact ⟨List.mem_cons_self .., fun hx => (by have := (h1.lt hx).2; omega), fun hx => (by have := h2.lt h1.ownL _ hx; omega)⟩
  · obtain ⟨q1, q2, q3⟩ := h5 b x hb
    exact ⟨List.mem_cons_of_mem _ q1, q2, q3⟩
theorem VT.join (h : VT w0 K L0 v X Y w) (k : Own w w' M) : VT w0 K (M ++ L0) v X Y w' := by
  obtain ⟨S, R, L, T, h1, h2, h3, h4, h5⟩ := h
  refine ⟨S, R, M ++ L, T, h1.join k, h2.mono (fun b x _ hx => hx) (fun x hx => List.mem_append_right _ hx), h3, fun x hx => ?_, h5⟩
  rcases List.mem_append.1 hx with hx | hx
  · exact List.mem_append_left _ hx
  · exact List.mem_append_right _ (h4 x hx)
theorem VT.heldAt (h : VT w0 K L0 v X Y w) (i : Int) : Calls Tryz.prog 15 #[.pointer (some ⟨v, 0, none⟩), .int .i64 i] w fun e w' => e = .returned (.int .i64 (heldN X.held i)) ∧ w = w' := by
  obtain ⟨S, R, L, T, h1, h2, h3, h4, h5⟩ := h
  exact held_any h1 i
theorem VT.paths2 {b : Nat} {p q : ByteArray} (hb : (b, Obj.cells #[.string p, .string q] 9) ∈ K) (X' : VX) (w' : World) (k : VT w0 K L0 v X' Y w') (i : Nat) (hi : i < [p, q].length) : ∃ g o, some (⟨b, 0, none⟩ : Addr) = some ⟨g, o, none⟩ ∧ w'.cell? ⟨g, o + i, none⟩ = some (.string ([p, q][i])) := by
  refine ⟨b, 0, rfl, ?_⟩
  rw [Nat.zero_add, cell_at (k.cellK hb) i]
  match i, hi with
  | 0, _ => rfl
  | 1, _ => rfl
  | n + 2, h => exact absurd h (by simp)
end
/-- What is held once all of the example's files are let go. -/
theorem held_end (xt xd xl xh B : Nat) (D : Dk) (xn xhh xs xu xst : Nat) (xr : List (List Int)) : heldN (letAll ⟨xt, xd, xl, xh, EO, B, [(2, 1), (5, 1)], D, xn, xhh, xs, xu, xst, xr⟩ [2, 5]).held 2 = 0 := by
  have e1 : letX ⟨xt, xd, xl, xh, EO, B, [(2, 1), (5, 1)], D, xn, xhh, xs, xu, xst, xr⟩ 2 = ⟨xt, xd, xl, xh, reapE EO [2], B, [(5, 1)], D, xn, xhh, xs, xu, xst, xr⟩ := by
    unfold letX
    have hh : heldN [(2, 1), (5, 1)] 2 = 1 := by rfl
    dsimp only
    rw [hh, if_neg (show ¬ (1 : Int) = 0 by decide), if_pos rfl]
    rfl
  have e2 : ∀ E, letX ⟨xt, xd, xl, xh, E, B, [(5, 1)], D, xn, xhh, xs, xu, xst, xr⟩ 5 = ⟨xt, xd, xl, xh, reapE E [5], B, [], D, xn, xhh, xs, xu, xst, xr⟩ := fun E => by
    unfold letX
    have hh : heldN [(5, 1)] 5 = 1 := by rfl
    dsimp only
    rw [hh, if_neg (show ¬ (1 : Int) = 0 by decide), if_pos rfl]
    rfl
  unfold letAll
  rw [List.foldl_cons, e1, List.foldl_cons, e2, List.foldl_nil]
  rfl
end Go.Proofs.YtnjabanjgckeoaaGreatDoor
end

section
namespace Go.Proofs.YtnjabanjgckeoaaGreatDoor
open Go.RowKit
open Go.ChangeMaps (setBlock)
set_option linter.unusedVariables false
set_option linter.unusedSimpArgs false
set_option maxRecDepth 100000

set_option maxHeartbeats 8000000 in
theorem proc_alive (w : World) (hm : Mx w) : Calls Tryz.prog 7 #[] w fun e w' => e = .returned (.bool true) ∧ Below w.heap.size w w' := by
  have hop := popen_any w hm
  go_enter Tryz.func7, Tryz.ntmps7
  go_wp2_with fail
  refine hop.mono ?_
  rintro e w1 ⟨v, X, rfl, h1, hE, hH⟩
  have hnw := pnew_any h1
  unfold filesV at hnw
  clear hop h1
  go_wp2_with fail
  refine hnw.mono ?_
  rintro e w2 ⟨⟨tb, mb, last, runs⟩, rfl, rfl, rfl, h2⟩
  obtain ⟨xt, xd, xl, xh, E, B, held, D, xn, xhh, xs, xu, xst, xr⟩ := X
  dsimp only at hE hH
  subst hE hH
  have h3 := h2.newK (.cells #[.string (toB pFa), .string (toB pFc)] 9)
  have ho : HeldOk 0 (⟨xt, xd, xl, xh, EO, B, [], D, xn, xhh, xs, xu, xst, xr⟩ : VX) := ⟨List.nodup_nil, fun i => ⟨Int.le_refl 0, Int.le_refl 0⟩⟩
  have hs1 : Calls Tryz.prog 10 #[.pointer (some ⟨tb, 0, none⟩), .string uU, .slice (some ⟨w2.heap.size, 0, none⟩) 2 2] (w2.alloc (.cells #[.string (toB pFa), .string (toB pFc)] 9)) fun e w' => e = .returned (.tuple #[.int .i64 1, .int .i64 0]) ∧ ∃ b fv, VT w _ [] v ⟨xt, xd, xl, xh, EO, B, [(2, 1), (5, 1)], D, xn, xhh, xs, xu, xst, xr⟩ ⟨tb, mb, 1, [(1, ⟨b, uU, fv, [2, 5], false⟩)]⟩ w' :=
    spawn_yes h3 hm ho uU (some ⟨w2.heap.size, 0, none⟩) [toB pFa, toB pFc] 2 (by decide) (fun p hp => by
      simp only [List.mem_cons, List.not_mem_nil, or_false] at hp
      rcases hp with rfl | rfl <;> decide) (fun w' X' k i hi => VT.paths2 (List.mem_cons_self ..) X' w' k i hi) (by decide) (by show 0 < 32; decide) (by rfl) ⟨by show (0 : Int) ≤ 0; decide, by show (0 : Int) ≤ 1000000000; decide⟩ rfl
  clear hnw h2 h3
  unfold uU at hs1
  go_wp2_with fail
  refine hs1.mono ?_
  rintro e w3 ⟨rfl, pb, fv, h4⟩
  have h5 := (h4.blocks (K' := []) (fun b x hb => by cases hb)).newK (.cells #[.string (toB pFa), .string (toB pFx)] 9)
  have ho2 : HeldOk 2 (⟨xt, xd, xl, xh, EO, B, [(2, 1), (5, 1)], D, xn, xhh, xs, xu, xst, xr⟩ : VX) := holdX_ok (holdX_ok ho pFa) pFc
  have hs2 : Calls Tryz.prog 10 #[.pointer (some ⟨tb, 0, none⟩), .string uU, .slice (some ⟨w3.heap.size, 0, none⟩) 2 2] (w3.alloc (.cells #[.string (toB pFa), .string (toB pFx)] 9)) fun e w' => e = .returned (.tuple #[.int .i64 0, .int .i64 8]) ∧ VT w _ [] v ⟨xt, xd, xl, xh, EO, B, [(2, 1), (5, 1)], D, xn, xhh, xs, xu, xst, xr⟩ ⟨tb, mb, 1, [(1, ⟨pb, uU, fv, [2, 5], false⟩)]⟩ w' :=
    spawn_no h5 hm ho2 uU (some ⟨w3.heap.size, 0, none⟩) [toB pFa, toB pFx] 2 (by decide) (fun p hp => by
      simp only [List.mem_cons, List.not_mem_nil, or_false] at hp
      rcases hp with rfl | rfl <;> decide) (fun w' X' k i hi => VT.paths2 (List.mem_cons_self ..) X' w' k i hi) (by decide) (by show 1 < 32; decide) (ids := []) (by rfl) (by decide)
  clear hs1 h4 h5
  unfold uU at hs2
  go_wp2_with fail
  refine hs2.mono ?_
  rintro e w4 ⟨rfl, h6⟩
  have h7 := h6.blocks (K' := []) (fun b x hb => by cases hb)
  have hhd : Calls Tryz.prog 15 #[.pointer (some ⟨v, 0, none⟩), .int .i64 2] w4 fun e w' => e = .returned (.int .i64 1) ∧ w4 = w' := h7.heldAt 2
  clear hs2 h6
  go_wp2_with fail
  refine hhd.mono ?_
  rintro e w5 ⟨rfl, rfl⟩
  have hk : Calls Tryz.prog 11 #[.pointer (some ⟨tb, 0, none⟩), .int .i64 1] w4 fun e w' => e = .returned (.int .i64 0) ∧ VT w [] [] v ⟨xt, xd, xl, xh, EO, B, [(2, 1), (5, 1)], D, xn, xhh, xs, xu, xst, xr⟩ ⟨tb, mb, 1, [(1, ⟨pb, uU, fv, [2, 5], true⟩)]⟩ w' := kill_yes h7 (by show [(1 : Int)].Nodup; decide) 1 rfl
  clear hhd h7
  go_wp2_with fail
  refine hk.mono ?_
  rintro e w6 ⟨rfl, h8⟩
  have hg : Calls Tryz.prog 46 #[.pointer (some ⟨tb, 0, none⟩), .int .i64 1] w6 fun e w' => ∃ mv : Value, e = .returned (.tuple #[.agg #[.int .i64 1, .string uU, mv, .bool true], .bool true]) ∧ VT w [] [] v ⟨xt, xd, xl, xh, EO, B, [(2, 1), (5, 1)], D, xn, xhh, xs, xu, xst, xr⟩ ⟨tb, mb, 1, [(1, ⟨pb, uU, fv, [2, 5], true⟩)]⟩ w' ∧ Own w6 w' [rowI mv [2, 5]] := get_yes h8 1 rfl (by show 2 ≤ 1000000; decide)
  have H8 := Lib.hid h8
  unfold uU at hg
  clear hk h8
  go_wp2_with fail
  refine hg.mono ?_
  rintro e w7 ⟨mv, rfl, _, hO7⟩
  obtain ⟨ma, mc, rfl, _, _⟩ := Own.sized (h := (show Own _ w7 (⟨3, 1, mv, 2, [.int .i64 2, .int .i64 5]⟩ :: []) from hO7))
  have h9 := (H8.out.join hO7).newK (.cells #[.int .i64 1, .string uU, .slice ma 2 mc, .bool true] 101)
  have hpk : Calls Tryz.prog 12 #[.pointer (some ⟨tb, 0, none⟩), .int .i64 1] (w7.alloc (.cells #[.int .i64 1, .string uU, .slice ma 2 mc, .bool true] 101)) fun e w' => e = .returned (.tuple #[.bool true, .int .i64 0]) ∧ VT w _ _ v (letAll ⟨xt, xd, xl, xh, EO, B, [(2, 1), (5, 1)], D, xn, xhh, xs, xu, xst, xr⟩ [2, 5]) ⟨tb, mb, 1, []⟩ w' := pick_end h9 (by show [(1 : Int)].Nodup; decide) ho2 (by decide) 1 rfl (by show 2 ≤ 1000000; decide) rfl
  unfold uU at hpk
  clear hg H8 hO7 h9
  go_wp2_with fail
  refine hpk.mono ?_
  rintro e w8 ⟨rfl, h10⟩
  obtain ⟨_, hr10⟩ := h10.row (List.mem_cons_self ..)
  have hr10' : Own _ w8 (⟨3, 1, .slice ma 2 mc, 2, [.int .i64 2, .int .i64 5]⟩ :: []) := hr10
  obtain ⟨g, gc, e5, _⟩ := Own.form (h := hr10') (by decide)
  injection e5 with e6 e7 e8
  subst e6 e8
  have r0 : w8.cell? ⟨g, 0, none⟩ = some (.int .i64 2) := Own.cell (h := hr10') 0 (by decide)
  have hq : w8.heap[w7.heap.size]? = some (.cells #[.int .i64 1, .string ⟨#[117]⟩, .slice (some ⟨g, 0, none⟩) 2 mc, .bool true] 101) := h10.cellK (List.mem_cons_self ..)
  have q1 : w8.cell? ⟨w7.heap.size, 1, none⟩ = some (.string ⟨#[117]⟩) := by rw [cell_at hq 1]; rfl
  have q2 : w8.cell? ⟨w7.heap.size, 2, none⟩ = some (.slice (some ⟨g, 0, none⟩) 2 mc) := by rw [cell_at hq 2]; rfl
  have q3 : w8.cell? ⟨w7.heap.size, 3, none⟩ = some (.bool true) := by rw [cell_at hq 3]; rfl
  have hls := plist_any (Y := ⟨tb, mb, 1, []⟩) h10 List.nodup_nil (fun p hp => nomatch hp) (Nat.zero_le _)
  dsimp only at hls
  have H10 := Lib.hid h10
  clear hpk h10 hr10 hr10' hq
  go_wp2_with (first
    | (go_at_call 16; refine hls.mono ?_; rintro e w9 ⟨lv, ss, rfl, hp, hrow, hb⟩; have hss : ss = [] := List.perm_nil.1 hp; subst hss; obtain ⟨la, lc, rfl⟩ := owned_form hrow; have hh9 : Calls Tryz.prog 15 #[.pointer (some ⟨v, 0, none⟩), .int .i64 2] w9 (fun e w' => e = .returned (.int .i64 0) ∧ w9 = w') := (by have h12 := (H10.out.later hb).heldAt 2; rw [held_end] at h12; exact h12); have HB := Lib.hid (H10.out.later hb).below; clear hp hrow hb)
    | (go_at_call 15; refine hh9.mono ?_; rintro e w10 ⟨rfl, rfl⟩))
  go_ret
  exact ⟨rfl, HB.out⟩
end Go.Proofs.YtnjabanjgckeoaaGreatDoor
end

section
namespace Go.Proofs.YtnjabanjgckeoaaGreatDoor
open Go.RowKit Go.WideShapes Go.ChangeShapes
set_option linter.unusedVariables false
set_option linter.unusedSimpArgs false
set_option maxRecDepth 100000

theorem spot_zero {ad : Addr} {w : World} {v : Value} (h : w.cell? (ad.add 0) = some v) : ad.spot = none := by
  have := World.cell?_spot h
  unfold Addr.add at this
  rwa [if_pos rfl] at this
theorem open_nums {H : Type} {enc : TypeId × Value → H} {w : World} {base fuel : Nat} {held : Bool} {v : Value} {x : DataW H × List MemPlace} (hf : DataW.trod enc Tryz.prog w base (fun _ => true) held fuel 22 [v] = some x) :
    ∃ a l cap, v = .slice a l.length cap ∧ Nums w a l ∧ l.length ≤ maxLen ∧ (∀ n ∈ l, (Lit.int .i64 n).wf = true) := by
  rcases open_ints Tryz.underlying22 Tryz.underlying3 (by kernel_rfl) hf with ⟨hcs, _⟩ | ⟨xa, len, c, zs, hcs, _, hl, hm, hz, _, hcell, hwz⟩
  · injection hcs with hcs _
    exact ⟨none, [], 0, hcs, fun i hi => absurd hi (by simp), Nat.zero_le _, fun n hn => by cases hn⟩
  · injection hcs with hcs _
    have hz2 : zs.length = c := by simpa using hz
    have e : (zs.take len).length = len := by rw [List.length_take]; omega
    refine ⟨some xa, zs.take len, c, by rw [e]; exact hcs, fun i hi => ?_, by omega, fun n hn => hwz n (List.mem_of_mem_take hn)⟩
    have hi' : i < zs.length := by rw [e] at hi; omega
    have h1 := hcell i hi'
    have hsp := spot_zero (hcell 0 (by omega))
    obtain ⟨b, off, spot⟩ := xa
    have hspot : spot = none := hsp
    subst hspot
    refine ⟨b, off, rfl, ?_⟩
    rw [Addr.add_mid] at h1
    rw [h1, List.getElem_take]
    simp [hi']
end Go.Proofs.YtnjabanjgckeoaaGreatDoor
end

section
namespace Go.Proofs.YtnjabanjgckeoaaGreatDoor
open Go.RowKit
set_option linter.unusedVariables false
set_option linter.unusedSimpArgs false
set_option maxRecDepth 100000

theorem P3_code {X : VX} (h : X.E = EO) {x : List UInt8 × Int} (hx : x ∈ P3) : codeX X x.1 = 0 ∧ numX X x.1 = x.2 := by
  have key : ∀ y ∈ P3, (findX EO y.1 = some y.2 ∧ dirX EO y.1 = false) := by
    intro y hy
    simp only [P3, List.mem_cons, List.not_mem_nil, or_false] at hy
    rcases hy with rfl | rfl | rfl
    · exact ⟨rfl, rfl⟩
    · exact ⟨rfl, rfl⟩
    · exact ⟨rfl, rfl⟩
  obtain ⟨h1, h2⟩ := key x hx
  have hc : codeX X x.1 = 0 := by
    unfold codeX
    rw [h, h1]
    show (if dirX EO x.1 = true then (10 : Int) else 0) = 0
    rw [h2]
    rfl
  refine ⟨hc, ?_⟩
  unfold numX
  rw [if_pos hc, h, h1]
  rfl
theorem P3_reap {x : List UInt8 × Int} (hx : x ∈ P3) : reapE EO [x.2] = EO := by
  simp only [P3, List.mem_cons, List.not_mem_nil, or_false] at hx
  rcases hx with rfl | rfl | rfl
  · rfl
  · rfl
  · rfl
theorem holds_P3 {M : Nat} : ∀ (q : List (List UInt8 × Int)) (X : VX) (acc : List Int), (∀ x ∈ q, x ∈ P3) → X.E = EO → HeldOk M X → ∃ X', holdFrom (X, acc) (q.map (·.1)) = (0, acc ++ q.map (·.2), X') ∧ X'.E = EO ∧ (∀ j, heldN X'.held j = heldN X.held j + ((q.map (·.2)).count j : Nat)) ∧ HeldOk (M + q.length) X' := by
  intro q
  induction q generalizing M with
  | nil => intro X acc _ h1 h2; exact ⟨X, by simp [holdFrom], h1, fun j => by simp, h2⟩
  | cons x q ih =>
    intro X acc hq h1 h2
    obtain ⟨c1, c2⟩ := P3_code h1 (hq x (List.mem_cons_self ..))
    have e : holdX X x.1 = { X with held := put X.held x.2 (heldN X.held x.2 + 1) } := by unfold holdX; rw [if_pos c1, c2]
    obtain ⟨X', g1, g2, g3, g4⟩ := ih (M := M + 1) (holdX X x.1) (acc ++ [x.2]) (fun y hy => hq y (List.mem_cons_of_mem _ hy)) (by rw [e]; exact h1) (holdX_ok h2 _)
    refine ⟨X', ?_, g2, fun j => ?_, by rw [List.length_cons, show M + (q.length + 1) = M + 1 + q.length by omega]; exact g4⟩
    · rw [List.map_cons, holdFrom, if_pos c1, c2, g1]
      simp
    · rw [g3 j, e]
      show heldN (put X.held x.2 (heldN X.held x.2 + 1)) j + _ = _
      rw [heldN_put, List.map_cons, List.count_cons]
      by_cases hj : j = x.2
      · subst hj; simp; omega
      · rw [if_neg hj]
        have : (x.2 == j) = false := by rw [beq_eq_false_iff_ne]; exact fun e => hj e.symm
        rw [this]; simp
theorem letX_P3 {M : Nat} {X : VX} (h : X.E = EO) (hk : HeldOk M X) {x : List UInt8 × Int} (hx : x ∈ P3) (hp : 0 < heldN X.held x.2) : (letX X x.2).E = EO ∧ ∀ j, heldN (letX X x.2).held j = if j = x.2 then heldN X.held j - 1 else heldN X.held j := by
  unfold letX
  rw [if_neg (by omega)]
  split
  · rename_i h1
    refine ⟨by show reapE X.E [x.2] = EO; rw [h]; exact P3_reap hx, fun j => ?_⟩
    show heldN (del X.held x.2) j = _
    rw [heldN_del hk.1]
    split
    · rename_i hj; rw [hj, h1]; rfl
    · rfl
  · refine ⟨h, fun j => ?_⟩
    show heldN (put X.held x.2 (heldN X.held x.2 - 1)) j = _
    rw [heldN_put]
    split
    · rename_i hj; rw [hj]
    · rfl
theorem lets_P3 {M : Nat} : ∀ (q : List (List UInt8 × Int)) (X : VX), (∀ x ∈ q, x ∈ P3) → X.E = EO → HeldOk M X → (∀ j, ((q.map (·.2)).count j : Nat) ≤ heldN X.held j) → (letAll X (q.map (·.2))).E = EO ∧ HeldOk M (letAll X (q.map (·.2))) ∧ ∀ j, heldN (letAll X (q.map (·.2))).held j = heldN X.held j - ((q.map (·.2)).count j : Nat) := by
  intro q
  induction q with
  | nil => intro X _ h1 h2 _; exact ⟨h1, h2, fun j => by simp [letAll]⟩
  | cons x q ih =>
    intro X hq h1 h2 hc
    have hx := hq x (List.mem_cons_self ..)
    have hcx := hc x.2
    rw [List.map_cons, List.count_cons_self] at hcx
    obtain ⟨e1, e2⟩ := letX_P3 h1 h2 hx (by omega)
    obtain ⟨g1, g2, g3⟩ := ih (letX X x.2) (fun y hy => hq y (List.mem_cons_of_mem _ hy)) e1 (letX_ok h2 _) (fun j => by
      have := hc j
      rw [List.map_cons, List.count_cons] at this
      rw [e2 j]
      by_cases hj : j = x.2
      · subst hj; simp at this ⊢; omega
      · rw [if_neg hj]
        have hb : (x.2 == j) = false := by rw [beq_eq_false_iff_ne]; exact fun e => hj e.symm
        rw [hb] at this; simpa using this)
    refine ⟨g1, g2, fun j => ?_⟩
    show heldN (letAll (letX X x.2) (q.map (·.2))).held j = _
    rw [g3 j, e2 j, List.map_cons, List.count_cons]
    by_cases hj : j = x.2
    · subst hj; simp; omega
    · rw [if_neg hj]
      have hb : (x.2 == j) = false := by rw [beq_eq_false_iff_ne]; exact fun e => hj e.symm
      rw [hb]; simp

theorem tot_snoc (rs : List (Int × List Int)) (q : Int × List Int) (j : Int) : tot (rs ++ [q]) j = tot rs j + q.2.count j := by simp [tot]
theorem tot_del : ∀ {rs : List (Int × List Int)} {i : Int} {ids : List Int}, look rs i = some ids → ∀ j, tot (del rs i) j + ids.count j = tot rs j := by
  intro rs
  induction rs with
  | nil => intro i ids h; cases h
  | cons p r ih =>
    intro i ids h j
    unfold look at h
    unfold del
    split at h
    · rename_i hp
      rw [if_pos hp]
      injection h with h
      subst h
      simp [tot]; omega
    · rename_i hp
      rw [if_neg hp]
      have := ih h j
      simp only [tot, List.map_cons, List.sum_cons] at this ⊢
      omega
theorem put_fresh {β : Type} {m : List (Int × β)} {a : Int} (v : β) (h : look m a = none) : put m a v = m ++ [(a, v)] := by
  induction m with
  | nil => rfl
  | cons p r ih =>
    unfold look at h
    split at h
    · cases h
    · rename_i hp
      unfold put
      rw [if_neg hp, ih h]; rfl
theorem look_runs (Y : Tab) (i : Int) : look (runsM Y) i = (look Y.runs i).map (·.maps) := by
  unfold runsM
  induction Y.runs with
  | nil => rfl
  | cons p r ih =>
    rw [List.map_cons]
    unfold look
    split
    · rfl
    · exact ih
theorem del_runs (Y : Tab) (i : Int) : ((del Y.runs i).map fun q => (q.1, q.2.maps)) = del (runsM Y) i := by
  unfold runsM
  induction Y.runs with
  | nil => rfl
  | cons p r ih =>
    rw [List.map_cons]
    unfold del
    split
    · rfl
    · rw [List.map_cons, ih]
theorem EndOk.comes {M : Nat} {X : VX} {Y : Tab} (h : EndOk M X Y) (q : List (List UInt8 × Int)) (hq : ∀ x ∈ q, x ∈ P3) (hf : look Y.runs (Y.last + 1) = none) :
    ∃ X', holdFrom (X, []) (q.map (·.1)) = (0, q.map (·.2), X') ∧ ∀ b u fv, EndOk (M + q.length) X' { Y with last := Y.last + 1, runs := put Y.runs (Y.last + 1) ⟨b, u, fv, q.map (·.2), false⟩ } ∧ runsM { Y with last := Y.last + 1, runs := put Y.runs (Y.last + 1) ⟨b, u, fv, q.map (·.2), false⟩ } = runsM Y ++ [(Y.last + 1, q.map (·.2))] := by
  obtain ⟨X', g1, g2, g3, g4⟩ := holds_P3 q X [] hq h.E h.held
  refine ⟨X', by simpa using g1, fun b u fv => ?_⟩
  have hr : runsM { Y with last := Y.last + 1, runs := put Y.runs (Y.last + 1) ⟨b, u, fv, q.map (·.2), false⟩ } = runsM Y ++ [(Y.last + 1, q.map (·.2))] := by
    show (put Y.runs (Y.last + 1) _).map _ = _
    rw [put_fresh _ hf, List.map_append]; rfl
  exact ⟨⟨g2, g4, put_nodup h.keys _ _, fun j => by rw [hr, tot_snoc, g3 j, h.cnt j]; dsimp only; omega⟩, hr⟩
theorem EndOk.ends {M : Nat} {X : VX} {Y : Tab} (h : EndOk M X Y) (i : Int) {p : Pr} (hp : look Y.runs i = some p) (q : List (List UInt8 × Int)) (hq : ∀ x ∈ q, x ∈ P3) (hm : p.maps = q.map (·.2)) :
    EndOk M (letAll X p.maps) { Y with runs := del Y.runs i } ∧ runsM { Y with runs := del Y.runs i } = del (runsM Y) i := by
  have hl : look (runsM Y) i = some p.maps := by rw [look_runs, hp]; rfl
  have ht := tot_del hl
  obtain ⟨g1, g2, g3⟩ := lets_P3 q X hq h.E h.held (fun j => by have := ht j; rw [h.cnt j, ← hm]; omega)
  rw [hm]
  have hr : runsM { Y with runs := del Y.runs i } = del (runsM Y) i := del_runs Y i
  refine ⟨⟨g1, g2, h.keys.sublist ((del_sub _ _).map _), fun j => ?_⟩, hr⟩
  rw [hr, g3 j, h.cnt j, ← hm]
  have := ht j
  omega
end Go.Proofs.YtnjabanjgckeoaaGreatDoor
end

section
namespace Go.Proofs.YtnjabanjgckeoaaGreatDoor
open Go.RowKit
open Go.ChangeMaps (setBlock)
set_option linter.unusedVariables false
set_option linter.unusedSimpArgs false
set_option maxRecDepth 100000

theorem sel_in (b : Nat → Bool) : ∀ k, ∀ x ∈ sel b k, x ∈ P3 := by
  intro k
  induction k with
  | zero => intro x hx; cases hx
  | succ k ih =>
    intro x hx
    rcases List.mem_append.1 hx with hx | hx
    · exact ih x hx
    · split at hx
      · exact List.mem_of_getElem? (by simpa using hx)
      · cases hx
theorem sel_len (b : Nat → Bool) : ∀ k, (sel b k).length ≤ k := by
  intro k
  induction k with
  | zero => exact Nat.le_refl _
  | succ k ih =>
    show (sel b k ++ _).length ≤ k + 1
    rw [List.length_append]
    have : (if b k then (P3[k]?).toList else []).length ≤ 1 := by
      split
      · cases P3[k]? <;> simp
      · simp
    omega
theorem sel_yes {b : Nat → Bool} {k : Nat} (h : b k = true) {x : List UInt8 × Int} (hx : P3[k]? = some x) : sel b (k + 1) = sel b k ++ [x] := by
  show sel b k ++ _ = _
  rw [if_pos h, hx]; rfl
theorem sel_no {b : Nat → Bool} {k : Nat} (h : b k = false) : sel b (k + 1) = sel b k := by
  show sel b k ++ _ = _
  rw [if_neg (by rw [h]; decide), List.append_nil]
theorem rsOf_len (l : List Int) : ∀ k, (rsOf l k).length = k := by
  intro k
  induction k with
  | zero => rfl
  | succ k ih => show (rsOf l k ++ _).length = k + 1; rw [List.length_append, ih]; rfl
theorem rsOf_keys (l : List Int) : ∀ k, ∀ q ∈ rsOf l k, 1 ≤ q.1 ∧ q.1 ≤ k := by
  intro k
  induction k with
  | zero => intro q hq; cases hq
  | succ k ih =>
    intro q hq
    rcases List.mem_append.1 hq with hq | hq
    · have := ih q hq; omega
    · rw [List.mem_singleton.1 hq]; dsimp only; omega
theorem kindsT : Kinds Tryz.prog 9 KT := kinds_string Tryz.underlying9
theorem names3_at {w : World} {nb : Nat} (h : w.heap[nb]? = some names3) {k : Nat} (hk : k < 3) : ∃ x, P3[k]? = some x ∧ w.cell? ⟨nb, k, none⟩ = some (.string (toB x.1)) := by
  match k, hk with
  | 0, _ => exact ⟨_, rfl, cell_at h 0⟩
  | 1, _ => exact ⟨_, rfl, cell_at h 1⟩
  | 2, _ => exact ⟨_, rfl, cell_at h 2⟩
theorem P3_inj {x y : List UInt8 × Int} (hx : x ∈ P3) (hy : y ∈ P3) : (toB x.1 = toB y.1 → x = y) ∧ (x.2 = y.2 → x = y) := by
  refine ⟨fun h => ?_, fun h => ?_⟩
  · have h := toB_inj h
    simp only [P3, List.mem_cons, List.not_mem_nil, or_false] at hx hy
    rcases hx with rfl | rfl | rfl <;> rcases hy with rfl | rfl | rfl <;> first | rfl | (exact absurd h (by decide))
  · simp only [P3, List.mem_cons, List.not_mem_nil, or_false] at hx hy
    rcases hx with rfl | rfl | rfl <;> rcases hy with rfl | rfl | rfl <;> first | rfl | (exact absurd h (by decide))
theorem CntAt.zero : CntAt (.map #[] 0) fun _ => 0 := ⟨[], MapO.empty KT, fun x _ => rfl⟩
theorem CntAt.same {o : Obj} {c d : Int → Int} (h : CntAt o c) (hc : ∀ x ∈ P3, c x.2 = d x.2) : CntAt o d := by
  obtain ⟨m, h1, h2⟩ := h
  exact ⟨m, h1, fun x hx => by rw [h2 x hx, hc x hx]⟩
theorem zeroIntE (w : World) : (zeroValue 3).run Tryz.prog w = .ok (.int .i64 0) w := by kernel_rfl
theorem CntAt.find {o : Obj} {c : Int → Int} (h : CntAt o c) {w : World} {hb : Nat} (hh : w.heap[hb]? = some o) {x : List UInt8 × Int} (hx : x ∈ P3) : (Instr.lookup 28 (.map (some hb)) (.string (toB x.1)) false).run Tryz.prog w = .ok (.int .i64 (c x.2)) w := by
  obtain ⟨m, h1, h2⟩ := h
  have := MapO.lookup kindsT Tryz.underlying28 (zeroIntE w) h1 hh (toB x.1) false
  rw [h2 x hx] at this
  exact this
theorem CntAt.set {o : Obj} {c : Int → Int} (h : CntAt o c) {w : World} {hb : Nat} (hh : w.heap[hb]? = some o) {x : List UInt8 × Int} (hx : x ∈ P3) (n : Int) : ∃ o', (Instr.mapUpdate 28 (.map (some hb)) (.string (toB x.1)) (.int .i64 n)).run Tryz.prog w = .ok () (setBlock w hb o') ∧ CntAt o' fun j => if j = x.2 then n else c j := by
  obtain ⟨m, h1, h2⟩ := h
  obtain ⟨o', g1, g2⟩ := MapO.update kindsT Tryz.underlying28 h1 hh (toB x.1) (.int .i64 n)
  refine ⟨o', g1, _, g2, fun y hy => ?_⟩
  rw [look_put]
  by_cases he : toB y.1 = toB x.1
  · have := (P3_inj hy hx).1 he
    subst this
    rw [if_pos rfl]
    show Value.int .i64 n = .int .i64 (if y.2 = y.2 then n else c y.2)
    rw [if_pos rfl]
  · rw [if_neg he, h2 y hy]
    show Value.int .i64 (c y.2) = .int .i64 (if y.2 = x.2 then n else c y.2)
    rw [if_neg (fun e => he (by rw [(P3_inj hy hx).2 e]))]
end Go.Proofs.YtnjabanjgckeoaaGreatDoor
end

section
namespace Go.Proofs.YtnjabanjgckeoaaGreatDoor
open Go.RowKit
open Go.ChangeMaps (setBlock)
set_option linter.unusedVariables false
set_option linter.unusedSimpArgs false
set_option maxRecDepth 100000

section
variable {w0 w w' : World} {K : Blocks} {L0 rs : List Rw} {v : Nat} {X : VX} {Y : Tab}
theorem EndOk.mono {M M' : Nat} (h : EndOk M X Y) (hm : M ≤ M') : EndOk M' X Y :=
  ⟨h.E, ⟨h.held.1, fun i => by have := h.held.2 i; omega⟩, h.keys, h.cnt⟩
end
section
variable {w0 w w' : World} {K : Blocks} {rs : List Rw} {v M : Nat} {X : VX} {Y : Tab}
/-- Nothing rests: the row of paths is known by its cells alone. -/
theorem spawn_0 (h : VTX w0 K [] v X Y [] w) (hm : Mx w0) (he : EndOk M X Y) (hM : M ≤ 1000) (q : List (List UInt8 × Int)) (hq : ∀ x ∈ q, x ∈ P3) (hq3 : q.length ≤ 3) (hl : 0 ≤ Y.last ∧ Y.last ≤ 1000) (hfr : look Y.runs (Y.last + 1) = none) (h32 : Y.runs.length < 32) (qa : Option Addr) (qc : Nat)
    (hps : ∀ w' X', VT w0 K [] v X' Y w' → ∀ i (h : i < q.length), ∃ g o, qa = some ⟨g, o, none⟩ ∧ w'.cell? ⟨g, o + i, none⟩ = some (.string (toB q[i].1))) :
    Calls Tryz.prog 10 #[.pointer (some ⟨Y.tb, 0, none⟩), .string ⟨#[117]⟩, .slice qa q.length qc] w fun e w' => e = .returned (.tuple #[.int .i64 (Y.last + 1), .int .i64 0]) ∧ SpawnPost w0 K M v Y q [] w' := by
  obtain ⟨X', g1, g2⟩ := he.comes q hq hfr
  have hlen : (q.map fun x => toB x.1).length = q.length := List.length_map ..
  have hmap : ((q.map fun x => toB x.1).map fun p => p.data.toList) = q.map (·.1) := by
    rw [List.map_map]; rfl
  have hsz : ∀ p ∈ q.map (fun x => toB x.1), p.size ≤ maxLen := fun p hp => by
    obtain ⟨x, hx, rfl⟩ := List.mem_map.1 hp
    have h3 := hq x hx
    rw [toB_size]
    simp only [P3, List.mem_cons, List.not_mem_nil, or_false] at h3
    unfold maxLen
    rcases h3 with rfl | rfl | rfl <;> decide
  have hy := spawn_yes h.vt hm he.held ⟨#[117]⟩ qa (q.map fun x => toB x.1) qc (by rw [hlen]; omega) hsz (fun w' X' k i hi => by
    obtain ⟨g, o, e1, e2⟩ := hps w' X' k i (by rw [hlen] at hi; exact hi)
    exact ⟨g, o, e1, by rw [e2, List.getElem_map]⟩) (by rw [hlen]; omega) h32 (by rw [hmap]; exact g1) ⟨hl.1, by omega⟩ hfr
  rw [hlen] at hy
  refine hy.mono fun e w' hh => ⟨hh.1, ?_⟩
  obtain ⟨b, fv, hV⟩ := hh.2
  obtain ⟨g3, g4⟩ := g2 b ⟨#[117]⟩ fv
  exact ⟨X', { Y with last := Y.last + 1, runs := put Y.runs (Y.last + 1) ⟨b, ⟨#[117]⟩, fv, q.map (·.2), false⟩ }, rfl, rfl, g4, g3.mono (by omega), hV.vtx⟩
theorem cur_cell {w : World} {g : Nat} {cur : Array Value} {e : TypeId} {n : Nat} {ls : List (List UInt8)} (h : w.heap[g]? = some (.cells cur e (0, 0))) (hc : cur.toList.take n = strs ls) (i : Nat) (hi : i < ls.length) : w.cell? ⟨g, i, none⟩ = some (.string (toB ls[i])) := by
  rw [cell_at h i]
  have h1 := strs_at ls i hi
  rw [← hc, List.getElem?_take] at h1
  split at h1
  · simpa using h1
  · cases h1
theorem spawn_x {qv pv : Value} {q : List (List UInt8 × Int)} {ids : List Int} (h : VTX w0 K [] v X Y [rowSs qv (q.map (·.1)), rowI pv ids] w) (hm : Mx w0) (he : EndOk M X Y) (hM : M ≤ 1000) (hq : ∀ x ∈ q, x ∈ P3) (hq3 : q.length ≤ 3) (hl : 0 ≤ Y.last ∧ Y.last ≤ 1000) (hfr : look Y.runs (Y.last + 1) = none) (h32 : Y.runs.length < 32) :
    Calls Tryz.prog 10 #[.pointer (some ⟨Y.tb, 0, none⟩), .string ⟨#[117]⟩, qv] w fun e w' => e = .returned (.tuple #[.int .i64 (Y.last + 1), .int .i64 0]) ∧ SpawnPost w0 K M v Y q [rowI pv ids] w' := by
  have fin : ∀ (K1 : Blocks) (qa : Option Addr) (qc : Nat), qv = .slice qa q.length qc → (∀ b x, (b, x) ∈ K → (b, x) ∈ K1) → VTX w0 K1 [] v X Y [rowI pv ids] w → (∀ K2 : Blocks, (∀ b x, (b, x) ∈ K1 → (b, x) ∈ K2) → ∀ w' X', VT w0 K2 [] v X' Y w' → ∀ i (h : i < q.length), ∃ g o, qa = some ⟨g, o, none⟩ ∧ w'.cell? ⟨g, o + i, none⟩ = some (.string (toB q[i].1))) →
      Calls Tryz.prog 10 #[.pointer (some ⟨Y.tb, 0, none⟩), .string ⟨#[117]⟩, qv] w fun e w' => e = .returned (.tuple #[.int .i64 (Y.last + 1), .int .i64 0]) ∧ SpawnPost w0 K M v Y q [rowI pv ids] w' := by
    intro K1 qa qc hqv hK1 h1 hcell
    subst hqv
    rcases VTX.freeze (show VTX w0 K1 [] v X Y (⟨3, 1, pv, ids.length, ids.map (Value.int .i64)⟩ :: []) w from h1) with ⟨e1, e2, e3, h2⟩ | ⟨g, cap, cur, e1, k1, k2, k3, k4, _, h2, hne⟩
    · refine (spawn_0 h2 hm he hM q hq hq3 hl hfr h32 qa qc (hcell K1 fun b x hb => hb)).mono fun e w' hh => ⟨hh.1, ?_⟩
      obtain ⟨X', Y', y1, y2, y3, y4, y5⟩ := hh.2
      have e0 : ids = [] := List.eq_nil_of_length_eq_zero e2
      subst e1 e0
      exact ⟨X', Y', y1, y2, y3, y4, (y5.subK hK1).nilrow _ _⟩
    · refine (spawn_0 h2 hm he hM q hq hq3 hl hfr h32 qa qc (hcell _ fun b x hb => List.mem_cons_of_mem _ hb)).mono fun e w' hh => ⟨hh.1, ?_⟩
      obtain ⟨X', Y', y1, y2, y3, y4, y5⟩ := hh.2
      subst e1
      exact ⟨X', Y', y1, y2, y3, y4, (y5.thaw hne k1 k2 k3 k4 (by simp)).subK hK1⟩
  rcases VTX.freeze (show VTX w0 K [] v X Y (⟨9, 1, qv, (q.map (·.1)).length, strs (q.map (·.1))⟩ :: [rowI pv ids]) w from h) with ⟨e1, e2, e3, h1⟩ | ⟨g, cap, cur, e1, k1, k2, k3, k4, _, h1, hne⟩
  · have e0 : q.length = 0 := by simpa using e2
    exact fin K none 0 (by rw [e1, e0]) (fun b x hb => hb) h1 fun K2 _ w' X' _ i hi => absurd hi (by omega)
  · refine fin _ (some ⟨g, 0, none⟩) cap (by rw [e1, List.length_map]) (fun b x hb => List.mem_cons_of_mem _ hb) h1 fun K2 hK2 w' X' hV i hi => ⟨g, 0, rfl, ?_⟩
    have hc := hV.cellK (hK2 _ _ (List.mem_cons_self ..))
    have := cur_cell hc k4 i (by simpa using hi)
    rw [Nat.zero_add, this, List.getElem_map]
end
end Go.Proofs.YtnjabanjgckeoaaGreatDoor
end

section
namespace Go.Proofs.YtnjabanjgckeoaaGreatDoor
open Go.RowKit
open Go.ChangeMaps (setBlock)
set_option linter.unusedVariables false
set_option linter.unusedSimpArgs false
set_option maxRecDepth 100000

/-- A call of the table, or of the volume, while a row of numbers rests. -/
theorem VTX.call {w0 w : World} {K : Blocks} {v : Nat} {X X' : VX} {Y Y' : Tab} {pv : Value} {ids : List Int} {f : FuncId} {args : Array Value} {P : Ending → Prop} (h : VTX w0 K [] v X Y [rowI pv ids] w)
    (hc : ∀ K' : Blocks, VT w0 K' [] v X Y w → Calls Tryz.prog f args w fun e w' => P e ∧ VT w0 K' [] v X' Y' w') : Calls Tryz.prog f args w fun e w' => P e ∧ VTX w0 K [] v X' Y' [rowI pv ids] w' := by
  rcases VTX.freeze (show VTX w0 K [] v X Y (⟨3, 1, pv, ids.length, ids.map (Value.int .i64)⟩ :: []) w from h) with ⟨e1, e2, e3, h2⟩ | ⟨g, cap, cur, e1, k1, k2, k3, k4, _, h2, hne⟩
  · refine (hc K h2.vt).mono fun e w' hh => ⟨hh.1, ?_⟩
    have e0 : ids = [] := List.eq_nil_of_length_eq_zero e2
    subst e1 e0
    exact hh.2.vtx.nilrow _ _
  · refine (hc _ h2.vt).mono fun e w' hh => ⟨hh.1, ?_⟩
    subst e1
    exact hh.2.vtx.thaw hne k1 k2 k3 k4 (by simp)
theorem rsOf_at (l : List Int) : ∀ (k i : Nat), i < k → (rsOf l k)[i]? = some ((i : Int) + 1, (sel (bitN (l.getD i 0)) 3).map (·.2)) := by
  intro k
  induction k with
  | zero => intro i h; omega
  | succ k ih =>
    intro i h
    show (rsOf l k ++ [_])[i]? = _
    by_cases hi : i < k
    · rw [List.getElem?_append_left (by rw [rsOf_len]; exact hi)]
      exact ih i hi
    · obtain rfl : i = k := by omega
      rw [List.getElem?_append_right (by rw [rsOf_len]; exact Nat.le_refl _), rsOf_len, Nat.sub_self]
      rfl
theorem rsOf_drop (l : List Int) (k i : Nat) (h : i < k) : (rsOf l k).drop i = ((i : Int) + 1, (sel (bitN (l.getD i 0)) 3).map (·.2)) :: (rsOf l k).drop (i + 1) := by
  have h1 := rsOf_at l k i h
  obtain ⟨h2, h3⟩ := List.getElem?_eq_some_iff.1 h1
  rw [List.drop_eq_getElem_cons h2, h3]
theorem tot_cons (q : Int × List Int) (rs : List (Int × List Int)) (j : Int) : tot (q :: rs) j = q.2.count j + tot rs j := by simp [tot]
/-- The state ahead of a thing's end: the things ahead of it have ended. -/
theorem EndOk.head {M : Nat} {X : VX} {Y : Tab} (h : EndOk M X Y) {l : List Int} {k i : Nat} (hi : i < k) (hr : runsM Y = (rsOf l k).drop i) :
    ∃ p, look Y.runs ((i : Int) + 1) = some p ∧ p.maps = (sel (bitN (l.getD i 0)) 3).map (·.2) ∧ EndOk M (letAll X p.maps) { Y with runs := del Y.runs ((i : Int) + 1) } ∧ runsM { Y with runs := del Y.runs ((i : Int) + 1) } = (rsOf l k).drop (i + 1) := by
  have hd := rsOf_drop l k i hi
  rw [hd] at hr
  have hlk : look (runsM Y) ((i : Int) + 1) = some ((sel (bitN (l.getD i 0)) 3).map (·.2)) := by
    rw [hr]; unfold look; rw [if_pos rfl]
  rw [look_runs] at hlk
  cases hp : look Y.runs ((i : Int) + 1) with
  | none => rw [hp] at hlk; cases hlk
  | some p =>
    rw [hp] at hlk
    have hm : p.maps = (sel (bitN (l.getD i 0)) 3).map (·.2) := by simpa using hlk
    obtain ⟨g1, g2⟩ := h.ends _ hp _ (sel_in _ 3) hm
    refine ⟨p, rfl, hm, g1, ?_⟩
    rw [g2, hr]
    unfold del
    rw [if_pos rfl]
theorem sel_short {b : Nat → Bool} : ((sel b 3).map (·.2)).length ≤ 3 := by rw [List.length_map]; exact sel_len b 3
end Go.Proofs.YtnjabanjgckeoaaGreatDoor
end

section
namespace Go.Proofs.YtnjabanjgckeoaaGreatDoor
open Go.RowKit
set_option linter.unusedVariables false
set_option linter.unusedSimpArgs false
set_option maxRecDepth 100000

theorem put_maps {m : List (Int × Pr)} {i : Int} {p p' : Pr} (h : look m i = some p) (hm : p'.maps = p.maps) : ((put m i p').map fun q => (q.1, q.2.maps)) = m.map fun q => (q.1, q.2.maps) := by
  induction m with
  | nil => cases h
  | cons x r ih =>
    unfold look at h
    unfold put
    split at h
    · rename_i hx
      injection h with h
      subst h
      rw [if_pos hx, List.map_cons, List.map_cons, hm, hx]
    · rename_i hx
      rw [if_neg hx, List.map_cons, List.map_cons, ih h]
theorem EndOk.asked {M : Nat} {X : VX} {Y : Tab} (h : EndOk M X Y) {i : Int} {p : Pr} (hp : look Y.runs i = some p) :
    EndOk M X { Y with runs := put Y.runs i { p with ends := true } } ∧ runsM { Y with runs := put Y.runs i { p with ends := true } } = runsM Y ∧ look (put Y.runs i { p with ends := true }) i = some { p with ends := true } := by
  have hr : runsM { Y with runs := put Y.runs i { p with ends := true } } = runsM Y := put_maps hp rfl
  exact ⟨⟨h.E, h.held, put_nodup h.keys _ _, fun j => by rw [hr]; exact h.cnt j⟩, hr, by rw [look_put, if_pos rfl]⟩
/-- Asked to end, and picked: it ends. -/
theorem pick_x {w0 w : World} {K : Blocks} {v M : Nat} {X : VX} {Y : Tab} {pv : Value} {ids : List Int} (h : VTX w0 K [] v X Y [rowI pv ids] w) (he : EndOk M X Y) (hM : M ≤ 1000) (i : Int) {p : Pr} (hp : look Y.runs i = some p) (hl : p.maps.length ≤ 1000) (hend : p.ends = true) :
    Calls Tryz.prog 12 #[.pointer (some ⟨Y.tb, 0, none⟩), .int .i64 i] w fun e w' => e = .returned (.tuple #[.bool true, .int .i64 0]) ∧ VTX w0 K [] v (letAll X p.maps) { Y with runs := del Y.runs i } [rowI pv ids] w' :=
  h.call fun K' hV => pick_end hV he.keys he.held (by omega) i hp (by omega) hend
theorem kill_x {w0 w : World} {K : Blocks} {v M : Nat} {X : VX} {Y : Tab} {pv : Value} {ids : List Int} (h : VTX w0 K [] v X Y [rowI pv ids] w) (he : EndOk M X Y) (i : Int) {p : Pr} (hp : look Y.runs i = some p) :
    Calls Tryz.prog 11 #[.pointer (some ⟨Y.tb, 0, none⟩), .int .i64 i] w fun e w' => e = .returned (.int .i64 0) ∧ VTX w0 K [] v X { Y with runs := put Y.runs i { p with ends := true } } [rowI pv ids] w' :=
  h.call fun K' hV => kill_yes hV he.keys i hp
theorem exit_x {w0 w : World} {K : Blocks} {v M : Nat} {X : VX} {Y : Tab} {pv : Value} {ids : List Int} (h : VTX w0 K [] v X Y [rowI pv ids] w) (he : EndOk M X Y) (hM : M ≤ 1000) (i : Int) {p : Pr} (hp : look Y.runs i = some p) (hl : p.maps.length ≤ 1000) :
    Calls Tryz.prog 13 #[.pointer (some ⟨Y.tb, 0, none⟩), .int .i64 i] w fun e w' => e = .returned (.int .i64 0) ∧ VTX w0 K [] v (letAll X p.maps) { Y with runs := del Y.runs i } [rowI pv ids] w' :=
  h.call fun K' hV => exit_yes hV he.keys he.held (by omega) i hp (by omega)
end Go.Proofs.YtnjabanjgckeoaaGreatDoor
end

section
namespace Go.Proofs.YtnjabanjgckeoaaGreatDoor
open Go.RowKit
set_option linter.unusedVariables false
set_option linter.unusedSimpArgs false
set_option maxRecDepth 100000

section
variable {w0 w w' : World} {K : Blocks} {L0 rs : List Rw} {v : Nat} {X : VX} {Y : Tab}
theorem VTX.drew (h : VTX w0 K L0 v X Y rs w) : VTX w0 K L0 v X Y rs w.drew := h.later (Below.refl _ w).drew
/-- The tree finds each of the example's files. -/
theorem find_x (h : VTX w0 K L0 v X Y rs w) (hE : X.E = EO) (hm : Mx w0) {x : List UInt8 × Int} (hx : x ∈ P3) :
    Calls Tryz.prog 14 #[.pointer (some ⟨X.t, 0, none⟩), .string (toB x.1)] w fun e w' => e = .returned (.tuple #[.int .i64 x.2, .bool true]) ∧ VTX w0 K L0 v X Y rs w' := by
  have hf : findX X.E x.1 = some x.2 := by
    rw [hE]
    simp only [P3, List.mem_cons, List.not_mem_nil, or_false] at hx
    rcases hx with rfl | rfl | rfl <;> rfl
  have hz : (toB x.1).size ≤ maxLen := by
    rw [toB_size]
    simp only [P3, List.mem_cons, List.not_mem_nil, or_false] at hx
    unfold maxLen
    rcases hx with rfl | rfl | rfl <;> decide
  obtain ⟨S, R, L, T, h0, h1, h2, h3, h4, h5⟩ := h
  have hv : VTX w0 K L0 v X Y rs w := ⟨S, R, L, T, h0, h1, h2, h3, h4, h5⟩
  refine (VolIn.find h1 hm (toB x.1) hz).mono fun e w' hh => ⟨?_, hv.later hh.2⟩
  rw [hh.1, show (toB x.1).data.toList = x.1 from rfl, hf]
  rfl
theorem held_x (h : VTX w0 K L0 v X Y rs w) (i : Int) : Calls Tryz.prog 15 #[.pointer (some ⟨v, 0, none⟩), .int .i64 i] w fun e w' => e = .returned (.int .i64 (heldN X.held i)) ∧ w = w' := h.vt.heldAt i
end
end Go.Proofs.YtnjabanjgckeoaaGreatDoor
end

/- ProcEnds: its walk. -/
section
namespace Go.Proofs.YtnjabanjgckeoaaGreatDoor
open Go.RowKit
open Go.ChangeMaps (setBlock)
set_option linter.unusedVariables false
set_option linter.unusedSimpArgs false
set_option maxRecDepth 100000

theorem info_ssE : (Tryz.prog.info? 9).map (fun i => (i.zero, i.size, i.bytes)) = some (some (.string ⟨#[]⟩), 1, 16) := by kernel_rfl
theorem src_oneE (w : World) (u : Value) (T : TypeId) (h : u.oneCell' = true) : Src (w.alloc (.cells #[u] T)) (.slice (some ⟨w.heap.size, 0, none⟩) 1 1) 1 [u] := by
  refine .inr ⟨_, _, rfl, fun j x hj => ?_, fun x hx => by rw [List.mem_singleton.1 hx]; exact h⟩
  rw [Addr.add_mid, Nat.zero_add, World.cell?_alloc_new]
  simpa using hj
section
variable {w0 w w' : World} {K : Blocks} {L0 rs : List Rw} {v : Nat} {X : VX} {Y : Tab}
theorem VTX.made (h : VTX w0 K L0 v X Y rs w) (e : TypeId) : VTX w0 K L0 v X Y (⟨e, 1, .slice (some ⟨w.heap.size, 0, none⟩) 0 0, 0, []⟩ :: rs) (w.alloc (.cells #[] e)) := by
  obtain ⟨S, N, hO, _, back⟩ := h.grow
  exact back _ _ (hO.made e 1 #[] 0 rfl (by unfold maxLen; omega))
theorem VTX.at (h : VTX w0 K L0 v X Y rs w) {b : Nat} {x : Obj} (hb : (b, x) ∈ K) : w.heap[b]? = some x := h.vt.cellK hb
theorem VTX.sub {K' : Blocks} (h : VTX w0 K L0 v X Y rs w) (hs : ∀ b x, (b, x) ∈ K' → (b, x) ∈ K) : VTX w0 K' L0 v X Y rs w := by
  obtain ⟨S, R, L, T, h0, h1, h2, h3, h4, h5⟩ := h
  exact ⟨S, R, L, T, h0, h1, h2, h3, h4, fun b x hb => h5 b x (hs b x hb)⟩
theorem VTX.pushS {qv : Value} {ls : List (List UInt8)} {p : List UInt8} (h : VTX w0 K L0 v X Y (⟨9, 1, qv, ls.length + 1, strs ls ++ [.string (toB p)]⟩ :: rs) w) : VTX w0 K L0 v X Y (rowSs qv (ls ++ [p]) :: rs) w := by
  have e : (⟨9, 1, qv, ls.length + 1, strs ls ++ [.string (toB p)]⟩ : Rw) = rowSs qv (ls ++ [p]) := by simp [rowSs, strs]
  rw [← e]; exact h
end
def F1 (w0 : World) (v tb nb hb : Nat) (l : List Int) (k : Nat) (pv : Value) (wr : World) : Prop :=
  ∃ (X : VX) (Y : Tab) (o : Obj), Y.tb = tb ∧ Y.last = k ∧ runsM Y = rsOf l k ∧ EndOk (3 * k) X Y ∧ CntAt o (fun j => (tot (rsOf l k) j : Nat)) ∧ VTX w0 [(hb, o), (nb, names3)] [] v X Y [rowI pv ((rsOf l k).map (·.1))] wr
def F2 (w0 : World) (v nb hb : Nat) (X : VX) (Y : Tab) (rs : List (Int × List Int)) (b : Nat → Bool) (pv : Value) (j : Nat) (qv : Value) (wr : World) : Prop :=
  ∃ o, CntAt o (fun i => (tot rs i + ((sel b j).map (·.2)).count i : Nat)) ∧ VTX w0 [(hb, o), (nb, names3)] [] v X Y [rowSs qv ((sel b j).map (·.1)), rowI pv (rs.map (·.1))] wr
theorem VTX.treeCell {w0 w : World} {K : Blocks} {L0 rs : List Rw} {v : Nat} {X : VX} {Y : Tab} (h : VTX w0 K L0 v X Y rs w) : w.cell? ⟨v, 0, none⟩ = some (.pointer (some ⟨X.t, 0, none⟩)) := by
  obtain ⟨S, R, L, T, _, h1, _⟩ := h
  exact h1.atV.1.1
theorem VTX.pid {w0 w : World} {K : Blocks} {v : Nat} {X : VX} {Y : Tab} {pa : Option Addr} {n pc : Nat} {ids : List Int} (h : VTX w0 K [] v X Y [rowI (.slice pa n pc) ids] w) (i : Nat) (hi : i < ids.length) : ∃ gp, pa = some ⟨gp, 0, none⟩ ∧ w.cell? ⟨gp, i, none⟩ = some (.int .i64 ids[i]) := by
  obtain ⟨S, N, hO, _, _⟩ := h.grow
  have hO' : Own ⟨w0, S⟩ w (⟨3, 1, .slice pa n pc, ids.length, ids.map (Value.int .i64)⟩ :: N) := hO
  obtain ⟨gp, cap, e, _⟩ := Own.form (h := hO') (by omega)
  injection e with e1 e2 e3
  subst e1 e2 e3
  refine ⟨gp, rfl, ?_⟩
  rw [Own.cell (h := hO') i (by omega), List.getElem?_map, List.getElem?_eq_getElem hi]; rfl
def G1 (w0 : World) (v tb nb hb : Nat) (l : List Int) (k : Nat) (pv : Value) (i : Nat) (wr : World) : Prop :=
  ∃ (X : VX) (Y : Tab) (o : Obj), Y.tb = tb ∧ runsM Y = (rsOf l k).drop i ∧ EndOk (3 * k) X Y ∧ CntAt o (fun j => (tot ((rsOf l k).drop i) j : Nat)) ∧ VTX w0 [(hb, o), (nb, names3)] [] v X Y [rowI pv ((rsOf l k).map (·.1))] wr
def G2 (w0 : World) (v tb nb hb : Nat) (l : List Int) (k : Nat) (pv : Value) (i : Nat) (wr : World) : Prop :=
  ∃ (X : VX) (Y : Tab) (o : Obj), Y.tb = tb ∧ runsM Y = (rsOf l k).drop (i + 1) ∧ EndOk (3 * k) X Y ∧ CntAt o (fun j => (tot ((rsOf l k).drop i) j : Nat)) ∧ VTX w0 [(hb, o), (nb, names3)] [] v X Y [rowI pv ((rsOf l k).map (·.1))] wr
theorem sel_cnt (b : Nat → Bool) {j : Nat} (hj : j < 3) {x : List UInt8 × Int} (hx : P3[j]? = some x) : ((sel b 3).map (·.2)).count x.2 = ((sel b (j + 1)).map (·.2)).count x.2 := by
  match j, hj with
  | 0, _ => injection hx with hx; subst hx; simp only [sel, P3]; cases b 0 <;> cases b 1 <;> cases b 2 <;> decide
  | 1, _ => injection hx with hx; subst hx; simp only [sel, P3]; cases b 0 <;> cases b 1 <;> cases b 2 <;> decide
  | 2, _ => rfl
/-- Behind j of the names. -/
def G3 (w0 : World) (v nb hb : Nat) (rs : List (Int × List Int)) (ids : List Int) (X : VX) (Y : Tab) (b : Nat → Bool) (pv : Value) (j : Nat) (wr : World) : Prop :=
  ∃ o, CntAt o (fun q => ((tot rs q + ((sel b 3).map (·.2)).count q : Nat) : Int) - ((((sel b j).map (·.2)).count q : Nat) : Int)) ∧ VTX w0 [(hb, o), (nb, names3)] [] v X Y [rowI pv ids] wr
set_option maxHeartbeats 8000000 in
theorem ends_main (w : World) (hm : Mx w) {g off c : Nat} (l : List Int) (hlM : l.length ≤ maxLen) (hA : ∀ j (h : j < l.length), w.cell? ⟨g, off + j, none⟩ = some (.int .i64 l[j])) (hg : g < w.heap.size) :
    Calls Tryz.prog 3 #[.slice (some ⟨g, off, none⟩) l.length c] w fun e w' => e = .returned (.bool true) ∧ Below w.heap.size w w' := by
  have hl : (l.length : Int) ≤ 9223372036854775807 := by unfold maxLen at hlM; omega
  clear hlM
  have hal := proc_alive w hm
  have hop := fun w1 (h : Mx w1) => popen_any w1 h
  have HA := Lib.hid hA
  have Hm := Lib.hid hm
  clear hm
  go_enter Tryz.func3, Tryz.ntmps3
  go_wp2_with fail
  refine hal.mono ?_
  rintro e w1 ⟨rfl, hb1⟩
  go_wp2_with fail
  refine (hop w1 (Hm.out.later hb1)).mono ?_
  rintro e w2 ⟨v, X, rfl, h1, hE, hH⟩
  have hnw := pnew_any h1
  unfold filesV at hnw
  have HM1 := Lib.hid (Hm.out.later hb1)
  have HB1 := Lib.hid hb1
  have hmk : ∀ w, (Instr.makeMap 28 none).run Tryz.prog w = .ok (.map (some w.heap.size)) (w.alloc (.map #[] 0)) := fun w => rfl
  have hg1 : g < w1.heap.size := Nat.lt_of_lt_of_le hg hb1.size
  have HA1 := Lib.hid (show ∀ j (h : j < l.length), w1.cell? ⟨g, off + j, none⟩ = some (.int .i64 l[j]) from fun j hj => by rw [hb1.cell (p := ⟨g, off + j, none⟩) hg]; exact HA.out j hj)
  clear hop hal h1 hb1 hA
  go_wp2_with fail
  refine hnw.mono ?_
  rintro e w3 ⟨Y, rfl, hY1, hY2, h3⟩
  obtain ⟨W3, hW3⟩ : ∃ W, W = ((w3.alloc (.map #[] 0)).alloc (.cells #[] 3)).alloc (.cells #[.string ⟨#[47, 97]⟩, .string ⟨#[47, 98]⟩, .string ⟨#[47, 100, 47, 99]⟩] 9) := ⟨_, rfl⟩
  have hst : F1 w1 v Y.tb (w3.heap.size + 1 + 1) w3.heap.size l 0 (.slice (some ⟨w3.heap.size + 1, 0, none⟩) 0 0) W3 := by
    refine ⟨X, Y, .map #[] 0, rfl, by rw [hY1]; rfl, by unfold runsM; rw [hY2]; rfl, ⟨hE, ⟨by rw [hH]; exact List.nodup_nil, fun i => by rw [hH]; exact ⟨Int.le_refl 0, Int.le_refl 0⟩⟩, by rw [hY2]; exact List.nodup_nil, fun j => by rw [hH]; unfold runsM; rw [hY2]; rfl⟩, CntAt.zero, ?_⟩
    have q := ((h3.newK (.map #[] 0)).vtx).made 3
    have q2 := q.newK names3
    rw [World.size_alloc, World.size_alloc] at q2
    rw [hW3]
    exact q2.sub fun b x hb => by
      simp only [List.mem_cons, List.not_mem_nil, or_false] at hb ⊢
      exact hb.symm
  have HSt := Lib.hid hst
  have HW3 := Lib.hid hW3
  clear hst h3 hW3 hY1 hY2 hE hH hnw
  generalize Y.tb = tb at *
  go_upto_block 0 with (fail)
  rw [← HW3.out]
  clear HW3
  have HNb := Lib.hid (show w3.heap.size + 1 + 1 ≠ w3.heap.size from by omega)
  generalize w3.heap.size + 1 + 1 = nb at *
  generalize w3.heap.size = hb at *
  go_cut [6] (fun pv wc => ∃ (k : Nat) (pa : Option Addr) (pc : Nat), k ≤ l.length ∧ k ≤ 32 ∧ (k = l.length ∨ k = 32) ∧ pv = .slice pa k pc ∧ F1 w1 v tb nb hb l k (.slice pa k pc) wc)
  case first =>
    go_wp2_with fail
    go_loopw [6, 34] (fun pv i wr => ∃ (k : Nat) (pa : Option Addr) (pc : Nat), k ≤ l.length ∧ k ≤ 32 ∧ i = .int .i64 k ∧ pv = .slice pa k pc ∧ F1 w1 v tb nb hb l k (.slice pa k pc) wr) (fun _ i _ => l.length - (intOf i).toNat)
    case atStart => exact ⟨0, _, _, Nat.zero_le _, Nat.zero_le _, rfl, rfl, HSt.out⟩
    case round =>
      clear HSt
      obtain ⟨k, pa, pc, hk, hk32, rfl, rfl, X, Y, o, hYt, hYl, hYr, hE, hC, hV⟩ := hrel
      by_cases hlt : k < l.length
      · have hbw := hV.vt.below
        have hc : wr.cell? ⟨g, off + k, none⟩ = some (.int .i64 l[k]) := by rw [hbw.cell (p := ⟨g, off + k, none⟩) hg1]; exact HA1.out k hlt
        by_cases h32 : k < 32
        · have h33 : ¬ (32 : Int) ≤ (k : Int) := by omega
          have HGet := Lib.hid (show l.getD k 0 = l[k] from by rw [List.getD_eq_getElem?_getD, List.getElem?_eq_getElem hlt, Option.getD_some])
          generalize l[k] = n at *
          have HF2 := Lib.hid (show F2 w1 v nb hb X Y (rsOf l k) (bitN n) (.slice pa k pc) 0 (.slice (some ⟨wr.heap.size, 0, none⟩) 0 0) (wr.alloc (.cells #[] 9)) from ⟨o, hC.same fun x _ => by simp [sel], hV.made 9⟩)
          have HE := Lib.hid hE
          have HYr := Lib.hid hYr
          have HYl := Lib.hid hYl
          have HYt := Lib.hid hYt
          clear hbw hC hV hE hYr hYl hYt
          go_wp2_with fail
          go_loopw [10, 44] (fun qv i wq => ∃ (j : Nat) (qa : Option Addr) (qn qc : Nat), j ≤ 3 ∧ i = .int .i64 j ∧ qv = .slice qa qn qc ∧ F2 w1 v nb hb X Y (rsOf l k) (bitN n) (.slice pa k pc) j (.slice qa qn qc) wq) (fun _ i _ => 3 - (intOf i).toNat)
          case atStart => exact ⟨0, _, _, _, Nat.zero_le _, rfl, rfl, HF2.out⟩
          case round =>
            clear HF2 hc
            obtain ⟨j, qa, qn, qc, hj, rfl, rfl, o2, hC2, hV2⟩ := hrel
            by_cases hj3 : j < 3
            · obtain ⟨x, hx, hcx⟩ := names3_at (hV2.at (b := nb) (by simp)) hj3
              have hxm : x ∈ P3 := List.mem_of_getElem? hx
              have hd : decide ((j : Int) < 3) = true := decide_eq_true (by omega)
              cases hbit : bitN n j
              · have hb1 : (bits .and .i64 (n / 2 ^ j) 1 == 1) = false := hbit
                have hs := sel_no hbit
                have HR := Lib.hid (show ∃ o, CntAt o (fun i => (tot (rsOf l k) i + ((sel (bitN n) (j + 1)).map (·.2)).count i : Nat)) ∧ VTX w1 [(hb, o), (nb, names3)] [] v X Y [rowSs (.slice qa qn qc) ((sel (bitN n) (j + 1)).map (·.1)), rowI (.slice pa k pc) ((rsOf l k).map (·.1))] wr from ⟨o2, by rw [hs]; exact hC2, by rw [hs]; exact hV2⟩)
                clear hs hbit hC2 hV2 hx hxm
                generalize toB x.1 = xb at *
                go_wp2_with fail
                go_roundw
                case rel => exact ⟨j + 1, _, _, _, by omega, by go_num, rfl, HR.out⟩
                case measure => simp [intOf]; omega
              · have hb1 : (bits .and .i64 (n / 2 ^ j) 1 == 1) = true := hbit
                have hs := sel_yes hbit hx
                have hln : ((sel (bitN n) j).map (·.1)).length ≤ 3 := by rw [List.length_map]; have := sel_len (bitN n) j; omega
                have htl : tot (rsOf l k) x.2 ≤ 96 := by
                  have h1 := HE.out.cnt x.2
                  have h2 := (HE.out.held.2 x.2).2
                  rw [HYr.out] at h1
                  omega
                have hct : ((sel (bitN n) j).map (·.2)).count x.2 ≤ 3 := by
                  have h1 := List.count_le_length (a := x.2) (l := (sel (bitN n) j).map (·.2))
                  rw [List.length_map] at h1
                  have := sel_len (bitN n) j
                  omega
                obtain ⟨S2, N2, hO2, _, back⟩ := hV2.grow
                have HO := Lib.hid (show Own ⟨w1, S2⟩ (wr.alloc (.cells #[.string (toB x.1)] 9)) (rowSs (.slice qa qn qc) ((sel (bitN n) j).map (·.1)) :: (rowI (.slice pa k pc) ((rsOf l k).map (·.1)) :: N2)) from hO2.alloc _)
                have Hsrc := Lib.hid (src_oneE wr (.string (toB x.1)) 9 rfl)
                have Back := Lib.hid back
                have HS := Lib.hid hs
                have HC2 := Lib.hid hC2
                have HXm := Lib.hid hxm
                have HCt := Lib.hid hct
                have HTl := Lib.hid htl
                obtain ⟨i0, hi, hi0, hi1, hi2⟩ := info_parts info_ssE
                obtain ⟨ls, hls⟩ : ∃ ls, (sel (bitN n) j).map (·.1) = ls := ⟨_, rfl⟩
                rw [hls] at HO hln
                have HLs := Lib.hid hls
                clear hs hbit hC2 hV2 hx hxm hO2 back hct htl hls
                go_wp2_with (at_builtin; refine wpList_append_src rfl (.tmp 54) (.tmp 56) 29 rfl (.slice qa qn qc) ls.length (strs ls) (.slice (some ⟨wr.heap.size, 0, none⟩) 1 1) 1 [.string (toB x.1)] rfl rfl HO.out i0 (.string ⟨#[]⟩) 16 Tryz.underlying29 hi hi0 hi1 hi2 rfl (by decide) Hsrc.out rfl (by unfold maxLen; omega) (by omega) ?_)
                intro q2 w5 hO5
                have hV5 := VTX.pushS (Back.out w5 (⟨9, 1, q2, ls.length + 1, strs ls ++ [Value.string (toB x.1)]⟩ :: [rowI (Value.slice pa k pc) ((rsOf l k).map fun q : Int × List Int => q.1)]) hO5)
                obtain ⟨S5, N5, hO6, _, _⟩ := hV5.grow
                obtain ⟨ra, rc, hq2, _, _⟩ := Own.sized (h := hO6)
                obtain ⟨rn, hrn⟩ : ∃ rn, (rowSs q2 (ls ++ [x.1])).n = rn := ⟨_, rfl⟩
                have hq3 : q2 = .slice ra rn rc := by rw [← hrn]; exact hq2
                clear hq2 hO6 hrn
                subst hq3
                have ho5 := hV5.at (b := hb) (x := o2) (by simp)
                have hf := HC2.out.find ho5 HXm.out
                obtain ⟨cc, hcc⟩ : ∃ cc, tot (rsOf l k) x.2 + ((sel (bitN n) j).map (·.2)).count x.2 = cc := ⟨_, rfl⟩
                obtain ⟨o3, hup, hC3⟩ := HC2.out.set ho5 HXm.out ((cc : Int) + 1)
                have hV6 := hV5.turnK (fun c y hc => by
                  simp only [List.mem_cons, List.not_mem_nil, or_false, Prod.mk.injEq] at hc
                  rw [hc.1]; exact HNb.out) o3
                have hcl : cc ≤ 99 := by have := HCt.out; have := HTl.out; omega
                have HR := Lib.hid (show F2 w1 v nb hb X Y (rsOf l k) (bitN n) (.slice pa k pc) (j + 1) (.slice ra rn rc) (setBlock w5 hb o3) from ⟨o3, hC3.same fun y hy => by
                  rw [HS.out, List.map_append, List.count_append]
                  by_cases hyx : y.2 = x.2
                  · rw [if_pos hyx, hyx, ← hcc]; simp; omega
                  · rw [if_neg hyx]
                    have hb' : (x.2 == y.2) = false := by rw [beq_eq_false_iff_ne]; exact fun e => hyx e.symm
                    simp [List.count_cons, hb'], by rw [HS.out, List.map_append, HLs.out]; exact hV6⟩)
                rw [hcc] at hf
                have hwr : IntKind.i64.wrap ((cc : Int) + 1) = (cc : Int) + 1 := IntWalk.i64_in _ (by omega)
                clear hO5 hV5 hV6 hC3 ho5 hcc HO Hsrc Back hcx
                generalize toB x.1 = xb at *
                go_wp2_with fail
                go_roundw
                case rel => exact ⟨j + 1, _, _, _, by omega, by go_num, rfl, HR.out⟩
                case measure => simp [intOf]; omega
            · obtain rfl : j = 3 := by omega
              have hrl : Y.runs.length = k := by
                have h1 : (runsM Y).length = k := by rw [HYr.out, rsOf_len]
                unfold runsM at h1
                rwa [List.length_map] at h1
              have hfr : look Y.runs (Y.last + 1) = none := by
                cases hlk : look Y.runs (Y.last + 1) with
                | none => rfl
                | some p =>
                  have h1 : look (runsM Y) (Y.last + 1) = some p.maps := by rw [look_runs, hlk]; rfl
                  rw [HYr.out] at h1
                  have h2 := rsOf_keys l k _ (look_mem h1)
                  have h3 := HYl.out
                  dsimp only at h2
                  omega
              have hsp := spawn_x hV2 HM1.out HE.out (by omega) (sel_in _ 3) (sel_len _ 3) (by rw [HYl.out]; omega) hfr (by omega)
              rw [HYl.out, HYt.out] at hsp
              have HSp := Lib.hid hsp
              have HC2 := Lib.hid hC2
              clear hsp hfr hrl hC2 hV2
              go_wp2_with fail
              refine HSp.out.mono ?_
              rintro e w6 ⟨rfl, X6, Y6, y1, y2, y3, y4, hV6⟩
              obtain ⟨S6, N6, hO6, _, back6⟩ := hV6.grow
              have HO6 := Lib.hid (show Own ⟨w1, S6⟩ (w6.alloc (.cells #[.int .i64 ((k : Int) + 1)] 3)) (rowI (.slice pa k pc) ((rsOf l k).map fun q : Int × List Int => q.1) :: N6) from hO6.alloc _)
              have Hsrc6 := Lib.hid (src_oneE w6 (.int .i64 ((k : Int) + 1)) 3 rfl)
              have hr6 : rsOf l (k + 1) = rsOf l k ++ [((k : Int) + 1, (sel (bitN n) 3).map (·.2))] := by rw [← HGet.out]; rfl
              have HNext := Lib.hid (fun (w' : World) (pv' : Value) (hV : VTX w1 [(hb, o2), (nb, names3)] [] v X6 Y6 [rowI pv' (((rsOf l k).map fun q : Int × List Int => q.1) ++ [(k : Int) + 1])] w') => (show F1 w1 v tb nb hb l (k + 1) pv' w' from
                ⟨X6, Y6, o2, by rw [y1, HYt.out], by rw [y2, HYl.out]; rfl, by rw [y3, HYr.out, HYl.out, hr6], y4.mono (by omega), HC2.out.same fun x _ => by rw [hr6, tot_snoc], by rw [hr6, List.map_append]; exact hV⟩))
              have Back6 := Lib.hid back6
              obtain ⟨i0, hi, hi0, hi1, hi2⟩ := info_parts info_i
              have hln : ((rsOf l k).map fun q : Int × List Int => q.1).length = k := by rw [List.length_map, rsOf_len]
              obtain ⟨ids, hids⟩ : ∃ ids, ((rsOf l k).map fun q : Int × List Int => q.1) = ids := ⟨_, rfl⟩
              rw [hids] at HO6 HNext hln
              have Hln := Lib.hid hln
              clear hV6 hO6 back6 y1 y2 y3 y4 hr6 hids hln HSp
              go_wp2_with (at_builtin; refine wpList_append_src rfl (.tmp 71) (.tmp 73) 22 rfl (.slice pa k pc) ids.length (ids.map (Value.int .i64)) (.slice (some ⟨w6.heap.size, 0, none⟩) 1 1) 1 [.int .i64 ((k : Int) + 1)] rfl rfl HO6.out i0 (.int .i64 0) 8 Tryz.underlying22 hi hi0 hi1 hi2 rfl (by decide) Hsrc6.out rfl (by rw [Hln.out]; unfold maxLen; omega) (by rw [Hln.out]; omega) ?_)
              intro p2 w7 hO7
              have hV7 : VTX w1 [(hb, o2), (nb, names3)] [] v X6 Y6 [rowI p2 (ids ++ [(k : Int) + 1])] w7 := by
                have e : (⟨3, 1, p2, ids.length + 1, ids.map (Value.int .i64) ++ [Value.int .i64 ((k : Int) + 1)]⟩ : Rw) = rowI p2 (ids ++ [(k : Int) + 1]) := by simp [rowI]
                rw [← e]
                exact Back6.out w7 [⟨3, 1, p2, ids.length + 1, ids.map (Value.int .i64) ++ [Value.int .i64 ((k : Int) + 1)]⟩] hO7
              obtain ⟨S8, N8, hO8, _, _⟩ := hV7.grow
              obtain ⟨ra, rc, hp2, _, _⟩ := Own.sized (h := hO8)
              have hp3 : p2 = .slice ra (k + 1) rc := by
                rw [hp2]
                show Value.slice ra (ids ++ [(k : Int) + 1]).length rc = _
                rw [List.length_append, Hln.out]; rfl
              clear hp2 hO8
              subst hp3
              have HR := Lib.hid (HNext.out w7 _ hV7)
              clear hV7 hO7 HNext Back6 HO6 Hsrc6
              go_wp2_with fail
              go_roundw
              case rel => exact ⟨k + 1, _, _, by omega, by omega, by go_num, rfl, HR.out⟩
              case measure => simp [intOf]; omega
        · have h33 : (32 : Int) ≤ (k : Int) := by omega
          have HF := Lib.hid (show F1 w1 v tb nb hb l k (.slice pa k pc) wr from ⟨X, Y, o, hYt, hYl, hYr, hE, hC, hV⟩)
          have HEnd := Lib.hid (show k = l.length ∨ k = 32 from by omega)
          generalize l[k] = n at *
          clear hbw hC hV hE hYr hYl hYt
          go_wp2_with fail
          go_meet
          exact ⟨k, pa, pc, hk, hk32, HEnd.out, rfl, HF.out⟩
      · have HF := Lib.hid (show F1 w1 v tb nb hb l k (.slice pa k pc) wr from ⟨X, Y, o, hYt, hYl, hYr, hE, hC, hV⟩)
        have HEnd := Lib.hid (show k = l.length ∨ k = 32 from by omega)
        clear hC hV hE hYr hYl hYt
        obtain rfl : k = l.length := by omega
        go_wp2_with fail
        go_meet
        exact ⟨l.length, pa, pc, Nat.le_refl _, hk32, .inl rfl, rfl, HF.out⟩
  case rest =>
    obtain ⟨k, pa, pc, hk, hk32, hend, rfl, X, Y, o, hYt, hYl, hYr, hE, hC, hV⟩ := hcut
    have HG := Lib.hid (show G1 w1 v tb nb hb l k (.slice pa k pc) 0 wc from ⟨X, Y, o, hYt, by rw [List.drop_zero]; exact hYr, hE, by rw [List.drop_zero]; exact hC, hV⟩)
    clear hend hYt hYl hYr hE hC hV
    go_wp2_with fail
    go_loopw [78] (fun i wr => ∃ i' : Nat, i' ≤ k ∧ i = .int .i64 i' ∧ G1 w1 v tb nb hb l k (.slice pa k pc) i' wr) (fun i _ => k - (intOf i).toNat)
    case atStart => exact ⟨0, Nat.zero_le _, rfl, HG.out⟩
    case round =>
      clear HG
      obtain ⟨i, hi, rfl, X, Y, o, hYt, hYr, hE, hC, hV⟩ := hrel
      by_cases hik : i < k
      · obtain ⟨gp, rfl, hcp⟩ := hV.pid i (by rw [List.length_map, rsOf_len]; exact hik)
        have hpid : ((rsOf l k).map (·.1))[i]'(by rw [List.length_map, rsOf_len]; exact hik) = (i : Int) + 1 := by
          have h1 := rsOf_at l k i hik
          obtain ⟨h2, h3⟩ := List.getElem?_eq_some_iff.1 h1
          rw [List.getElem_map, h3]
        rw [hpid] at hcp
        have hil : i < l.length := by omega
        have hbw := hV.vt.below
        have hc : wr.cell? ⟨g, off + i, none⟩ = some (.int .i64 l[i]) := by rw [hbw.cell (p := ⟨g, off + i, none⟩) hg1]; exact HA1.out i hil
        have HGet := Lib.hid (show l.getD i 0 = l[i] from by rw [List.getD_eq_getElem?_getD, List.getElem?_eq_getElem hil, Option.getD_some])
        generalize l[i] = n at *
        have HE := Lib.hid hE
        have HYr := Lib.hid hYr
        have HYt := Lib.hid hYt
        have HV := Lib.hid hV
        have HC := Lib.hid hC
        clear hpid hbw hE hYr hYt hV hC
        go_upto_if 89 with (fail)
        go_cut [] (fun wc => G2 w1 v tb nb hb l k (.slice (some ⟨gp, 0, none⟩) k pc) i wc)
        case first =>
          obtain ⟨p, hp, hpm, g1, g2⟩ := HE.out.head hik HYr.out
          have hpl : p.maps.length ≤ 1000 := by rw [hpm]; have := sel_short (b := bitN (l.getD i 0)); omega
          by_cases hb3 : (bits .and .i64 (n / 8) 1 == 1) = true
          · have hkl := kill_x HV.out HE.out _ hp
            obtain ⟨a1, a2, a3⟩ := HE.out.asked hp
            obtain ⟨p2, hp2, hpm2, g3, g4⟩ := a1.head hik (a2.trans HYr.out)
            have hend : p2.ends = true := by
              have := Option.some.inj (hp2.symm.trans a3)
              rw [this]
            have hpl2 : p2.maps.length ≤ 1000 := by rw [hpm2]; have := sel_short (b := bitN (l.getD i 0)); omega
            have hpk := fun W (h : VTX w1 [(hb, o), (nb, names3)] [] v X { Y with runs := put Y.runs ((i : Int) + 1) { p with ends := true } } [rowI (.slice (some ⟨gp, 0, none⟩) k pc) ((rsOf l k).map (·.1))] W) => pick_x h a1 (by omega) _ hp2 hpl2 hend
            rw [HYt.out] at hkl
            dsimp only at hpk
            rw [HYt.out] at hpk
            have HPk := Lib.hid hpk
            have HG3 := Lib.hid g3
            have HG4 := Lib.hid g4
            clear hp hpm g1 g2 hpl a1 a2 a3 hp2 hpm2 g3 g4 hend hpl2 hpk
            go_wp2_with fail
            refine hkl.mono ?_
            rintro e w5 ⟨rfl, h5⟩
            have hpk := HPk.out w5 h5
            clear hkl h5 HPk
            go_wp2_with fail
            refine hpk.mono ?_
            rintro e w6 ⟨rfl, h6⟩
            have H6 := Lib.hid h6
            clear hpk h6
            go_wp2_with fail
            go_meet
            have hh := H6.out
            rw [← HYt.out] at hh ⊢
            exact ⟨_, { Y with runs := del (put Y.runs ((i : Int) + 1) { p with ends := true }) ((i : Int) + 1) }, o, rfl, HG4.out, HG3.out, HC.out, hh⟩
          · have hb4 : (bits .and .i64 (n / 8) 1 == 1) = false := by simpa using hb3
            have hex := exit_x HV.out HE.out (by omega) _ hp hpl
            rw [HYt.out] at hex
            have HG1 := Lib.hid g1
            have HG2 := Lib.hid g2
            clear hp hpm g1 g2 hpl hb3
            go_wp2_with fail
            refine hex.mono ?_
            rintro e w5 ⟨rfl, h5⟩
            have H5 := Lib.hid h5
            clear hex h5
            go_wp2_with fail
            go_meet
            have hh := H5.out
            rw [← HYt.out] at hh ⊢
            exact ⟨_, { Y with runs := del Y.runs ((i : Int) + 1) }, o, rfl, HG2.out, HG1.out, HC.out, hh⟩
        case rest =>
          obtain ⟨X, Y, o, hYt, hYr, hE, hC, hV⟩ := hcut
          have HG3 := Lib.hid (show G3 w1 v nb hb ((rsOf l k).drop (i + 1)) ((rsOf l k).map (·.1)) X Y (bitN n) (.slice (some ⟨gp, 0, none⟩) k pc) 0 wc from ⟨o, hC.same fun x _ => by
            rw [rsOf_drop l k i hik, tot_cons, HGet.out]
            simp [sel]
            omega, hV⟩)
          have HE2 := Lib.hid hE
          have HYr2 := Lib.hid hYr
          have HYt2 := Lib.hid hYt
          clear hYt hYr hE hC hV HE HYr HYt HV HC
          go_wp2_with fail
          go_loopw [112] (fun s wq => ∃ j : Nat, j ≤ 3 ∧ s = .int .i64 j ∧ G3 w1 v nb hb ((rsOf l k).drop (i + 1)) ((rsOf l k).map (·.1)) X Y (bitN n) (.slice (some ⟨gp, 0, none⟩) k pc) j wq) (fun s _ => 3 - (intOf s).toNat)
          case atStart => exact ⟨0, Nat.zero_le _, rfl, HG3.out⟩
          case round =>
            clear HG3
            obtain ⟨j, hj, rfl, o2, hC2, hV2⟩ := hrel
            by_cases hj3 : j < 3
            · obtain ⟨x, hx, hcx⟩ := names3_at (hV2.at (b := nb) (by simp)) hj3
              have hxm : x ∈ P3 := List.mem_of_getElem? hx
              have hd : decide ((j : Int) < 3) = true := decide_eq_true (by omega)
              have hcn := sel_cnt (bitN n) hj3 hx
              have hhe : heldN X.held x.2 = (tot ((rsOf l k).drop (i + 1)) x.2 : Nat) := by have := HE2.out.cnt x.2; rw [HYr2.out] at this; exact this
              have hhb := HE2.out.held.2 x.2
              have hbw2 := hV2.vt.below
              have hc2 : wr.cell? ⟨g, off + i, none⟩ = some (.int .i64 n) := by
                have := HA1.out i hil
                rw [hbw2.cell (p := ⟨g, off + i, none⟩) hg1, this, ← HGet.out, List.getD_eq_getElem?_getD, List.getElem?_eq_getElem hil, Option.getD_some]
              have hji : (j : Int) ≤ 2 := by omega
              have HJ := Lib.hid hj3
              have HF := Lib.hid (fun (W : World) (o3 : Obj) (hC3 : CntAt o3 (fun q => ((tot ((rsOf l k).drop (i + 1)) q + ((sel (bitN n) 3).map (·.2)).count q : Nat) : Int) - ((((sel (bitN n) (j + 1)).map (·.2)).count q : Nat) : Int))) (hV3 : VTX w1 [(hb, o3), (nb, names3)] [] v X Y [rowI (.slice (some ⟨gp, 0, none⟩) k pc) ((rsOf l k).map (·.1))] W) => (show
                Calls Tryz.prog 14 #[.pointer (some ⟨X.t, 0, none⟩), .string (toB x.1)] W (fun e w' => e = .returned (.tuple #[.int .i64 x.2, .bool true]) ∧ ((Instr.lookup 28 (.map (some hb)) (.string (toB x.1)) false).run Tryz.prog w' = .ok (.int .i64 (heldN X.held x.2)) w' ∧ (Instr.lookup 28 (.map (some hb)) (.string (toB x.1)) false).run Tryz.prog w'.drew = .ok (.int .i64 (heldN X.held x.2)) w'.drew) ∧
                  Hid (∀ W2, (W2 = w' ∨ W2 = w'.drew) → Calls Tryz.prog 15 #[.pointer (some ⟨v, 0, none⟩), .int .i64 x.2] W2 fun e w'' => e = .returned (.int .i64 (heldN X.held x.2)) ∧ W2 = w'') ∧
                  Hid (G3 w1 v nb hb ((rsOf l k).drop (i + 1)) ((rsOf l k).map (·.1)) X Y (bitN n) (.slice (some ⟨gp, 0, none⟩) k pc) (j + 1) w' ∧ G3 w1 v nb hb ((rsOf l k).drop (i + 1)) ((rsOf l k).map (·.1)) X Y (bitN n) (.slice (some ⟨gp, 0, none⟩) k pc) (j + 1) w'.drew)) ∧ W.cell? ⟨v, 0, none⟩ = some (.pointer (some ⟨X.t, 0, none⟩)) from by
                refine ⟨(find_x hV3 HE2.out.E HM1.out hxm).mono fun e w' hh => ?_, hV3.treeCell⟩
                obtain ⟨k1, k2⟩ := hh
                have k3 := k2.drew
                have f1 := hC3.find (k2.at (b := hb) (x := o3) (by simp)) hxm
                have f2 := hC3.find (k3.at (b := hb) (x := o3) (by simp)) hxm
                have hv : (((tot ((rsOf l k).drop (i + 1)) x.2 + ((sel (bitN n) 3).map (·.2)).count x.2 : Nat) : Int) - ((((sel (bitN n) (j + 1)).map (·.2)).count x.2 : Nat) : Int)) = heldN X.held x.2 := by rw [hhe, hcn]; omega
                rw [hv] at f1 f2
                exact ⟨k1, ⟨f1, f2⟩, fun W2 hW2 => by rcases hW2 with rfl | rfl; exact held_x k2 x.2; exact held_x k3 x.2, ⟨o3, hC3, k2⟩, ⟨o3, hC3, k3⟩⟩))
              cases hbit : bitN n j
              · have hb1 : (bits .and .i64 (n / 2 ^ j) 1 == 1) = false := hbit
                have hs := sel_no hbit
                obtain ⟨kf, tc⟩ := HF.out wr o2 (by rw [hs]; exact hC2) hV2
                clear hs hbit hC2 hV2 hx hxm hcn hhe hhb hbw2 HF hj3
                generalize toB x.1 = xb at *
                generalize heldN X.held x.2 = hx at *
                go_wp2_with fail
                refine kf.mono ?_
                rintro e w6 ⟨rfl, ⟨f1, f2⟩, HH, HR⟩
                clear kf tc
                go_wp2_with fail
                go_region_held3 (fun _ : World => True) (exact trivial) (first | (go_at_call 15; refine (HH.out _ ?_).mono ?_; (first | exact .inl rfl | exact .inr rfl); rintro e w7 ⟨rfl, rfl⟩))
                all_goals (go_wp2_with fail)
                all_goals (go_roundw)
                all_goals first
                  | exact ⟨j + 1, by have := HJ.out; omega, by go_num, HR.out.2⟩
                  | exact ⟨j + 1, by have := HJ.out; omega, by go_num, HR.out.1⟩
                  | (have := HJ.out; simp [intOf]; omega)
              · have hb1 : (bits .and .i64 (n / 2 ^ j) 1 == 1) = true := hbit
                have hs := sel_yes hbit hx
                have hcs : ((sel (bitN n) (j + 1)).map (·.2)).count x.2 = ((sel (bitN n) j).map (·.2)).count x.2 + 1 := by rw [hs, List.map_append, List.count_append]; simp
                have hv0 : (((tot ((rsOf l k).drop (i + 1)) x.2 + ((sel (bitN n) 3).map (·.2)).count x.2 : Nat) : Int) - ((((sel (bitN n) j).map (·.2)).count x.2 : Nat) : Int)) = heldN X.held x.2 + 1 := by rw [hhe, hcn, hcs]; push_cast; omega
                have ho5 := hV2.at (b := hb) (x := o2) (by simp)
                have hf := hC2.find ho5 hxm
                rw [hv0] at hf
                obtain ⟨o3, hup, hC3⟩ := hC2.set ho5 hxm (heldN X.held x.2)
                have hV6 := hV2.turnK (fun c y hc => by
                  simp only [List.mem_cons, List.not_mem_nil, or_false, Prod.mk.injEq] at hc
                  rw [hc.1]; exact HNb.out) o3
                obtain ⟨kf, tc⟩ := HF.out (setBlock wr hb o3) o3 (hC3.same fun y hy => by
                  by_cases hyx : y.2 = x.2
                  · rw [if_pos hyx, hyx, hhe, hcn]; omega
                  · rw [if_neg hyx, hs, List.map_append, List.count_append]
                    have hb' : (x.2 == y.2) = false := by rw [beq_eq_false_iff_ne]; exact fun e => hyx e.symm
                    simp [List.count_cons, hb']) hV6
                have hwr : IntKind.i64.wrap (heldN X.held x.2 + 1 - 1) = heldN X.held x.2 := by rw [Int.add_sub_cancel]; exact IntWalk.i64_in _ (by omega)
                have hwr2 : IntKind.i64.wrap (heldN X.held x.2) = heldN X.held x.2 := IntWalk.i64_in _ (by omega)
                clear hs hbit hC2 hV2 hx hxm hcn hhe hhb hbw2 HF hj3 hcs hv0 ho5 hC3 hV6
                generalize toB x.1 = xb at *
                generalize heldN X.held x.2 = hx at *
                generalize setBlock wr hb o3 = w5 at *
                go_wp2_with fail
                refine kf.mono ?_
                rintro e w6 ⟨rfl, ⟨f1, f2⟩, HH, HR⟩
                clear kf tc hup hf
                go_wp2_with fail
                go_region_held3 (fun _ : World => True) (exact trivial) (first | (go_at_call 15; refine (HH.out _ ?_).mono ?_; (first | exact .inl rfl | exact .inr rfl); rintro e w7 ⟨rfl, rfl⟩))
                all_goals (go_wp2_with fail)
                all_goals (go_roundw)
                all_goals first
                  | exact ⟨j + 1, by have := HJ.out; omega, by go_num, HR.out.2⟩
                  | exact ⟨j + 1, by have := HJ.out; omega, by go_num, HR.out.1⟩
                  | (have := HJ.out; simp [intOf]; omega)
            · obtain rfl : j = 3 := by omega
              have HG1 := Lib.hid (show G1 w1 v tb nb hb l k (.slice (some ⟨gp, 0, none⟩) k pc) (i + 1) wr from ⟨X, Y, o2, HYt2.out, HYr2.out, HE2.out, hC2.same fun x _ => by push_cast; omega, hV2⟩)
              clear hC2 hV2 hj3
              go_wp2_with fail
              go_roundw
              case rel => exact ⟨i + 1, hik, by go_num, HG1.out⟩
              case measure => simp [intOf]; omega
      · obtain rfl : i = k := by omega
        have hr0 : Y.runs = [] := by
          have h1 := hYr
          rw [List.drop_eq_nil_of_le (by rw [rsOf_len]; exact Nat.le_refl _)] at h1
          unfold runsM at h1
          exact List.map_eq_nil_iff.1 h1
        have hls := plist_any (Y := Y) hV.vt (by rw [hr0]; exact List.nodup_nil) (fun p hp => by rw [hr0] at hp; cases hp) (by rw [hr0]; exact Nat.zero_le _)
        have hl0 : Calls Tryz.prog 16 #[.pointer (some ⟨tb, 0, none⟩)] wr fun e w' => ∃ a c, e = .returned (.slice a 0 c) ∧ Below wr.heap.size wr w' := by
          rw [← hYt]
          refine hls.mono fun e w' hh => ?_
          obtain ⟨lv, ss, h2, h3, h4, h5⟩ := hh
          obtain ⟨a, c, h6⟩ := owned_form h4
          have hl : ss.length = 0 := by rw [h3.length_eq, List.length_map, hr0]; rfl
          exact ⟨a, c, by rw [h2, h6, hl], h5⟩
        have HBW := Lib.hid (HB1.out.trans (hV.vt.below.mono HB1.out.size))
        have HSZ := Lib.hid (HBW.out.size)
        clear hls hr0 hYr hYt hE hC hV hik
        go_wp2_with fail
        refine hl0.mono ?_
        rintro e w5 ⟨a5, c5, rfl, h5⟩
        have HB5 := Lib.hid (HBW.out.trans (h5.mono HSZ.out))
        clear hl0 h5
        go_wp2_with fail
        go_ret
        exact ⟨rfl, HB5.out⟩
set_option maxHeartbeats 8000000 in
/-- No rows: nothing runs. -/
theorem ends_nil (w : World) (hm : Mx w) {a : Option Addr} {c : Nat} : Calls Tryz.prog 3 #[.slice a 0 c] w fun e w' => e = .returned (.bool true) ∧ Below w.heap.size w w' := by
  have hal := proc_alive w hm
  have Hm := Lib.hid hm
  clear hm
  go_enter Tryz.func3, Tryz.ntmps3
  go_wp2_with fail
  refine hal.mono ?_
  rintro e w1 ⟨rfl, hb1⟩
  have hop := popen_any w1 (Hm.out.later hb1)
  have HB1 := Lib.hid hb1
  clear hal hb1
  go_wp2_with fail
  refine hop.mono ?_
  rintro e w2 ⟨v, X, rfl, h1, hE, hH⟩
  have hnw := pnew_any h1
  unfold filesV at hnw
  have hmk : ∀ w, (Instr.makeMap 28 none).run Tryz.prog w = .ok (.map (some w.heap.size)) (w.alloc (.map #[] 0)) := fun w => rfl
  clear hop h1 hE hH
  go_wp2_with fail
  refine hnw.mono ?_
  rintro e w3 ⟨Y, rfl, hY1, hY2, h3⟩
  have hV3 := ((h3.later ((Below.refl _ w3).alloc (Nat.le_refl _) (.map #[] 0))).later ((Below.refl _ (w3.alloc (.map #[] 0))).alloc (Nat.le_refl _) (.cells #[] 3))).later ((Below.refl _ ((w3.alloc (.map #[] 0)).alloc (.cells #[] 3))).alloc (Nat.le_refl _) (.cells #[.string ⟨#[47, 97]⟩, .string ⟨#[47, 98]⟩, .string ⟨#[47, 100, 47, 99]⟩] 9))
  have HV3 := Lib.hid hV3
  have HY := Lib.hid hY2
  clear hnw h3 hV3 hY1 hY2
  go_wp2_with fail
  go_loopw [6, 34] (fun pv i wr => i = .int .i64 0 ∧ pv = .slice (some ⟨w3.heap.size + 1, 0, none⟩) 0 0 ∧ VT w1 [] [] v X Y wr) (fun _ _ _ => 0)
  case atStart => exact ⟨rfl, rfl, HV3.out⟩
  case round =>
    obtain ⟨rfl, rfl, hV⟩ := hrel
    have HV := Lib.hid hV
    clear hV HV3
    go_wp2_with fail
    go_loopw [78] (fun i wr => i = .int .i64 0 ∧ VT w1 [] [] v X Y wr) (fun _ _ => 0)
    case atStart => exact ⟨rfl, HV.out⟩
    case round =>
      obtain ⟨rfl, hV⟩ := hrel
      have hr0 := HY.out
      have hl0 : Calls Tryz.prog 16 #[.pointer (some ⟨Y.tb, 0, none⟩)] wr fun e w' => ∃ a c, e = .returned (.slice a 0 c) ∧ Below wr.heap.size wr w' := by
        refine (plist_any (Y := Y) hV (by rw [hr0]; exact List.nodup_nil) (fun p hp => by rw [hr0] at hp; cases hp) (by rw [hr0]; exact Nat.zero_le _)).mono fun e w' hh => ?_
        obtain ⟨lv, ss, h2, h3, h4, h5⟩ := hh
        obtain ⟨a, c, h6⟩ := owned_form h4
        have hl : ss.length = 0 := by rw [h3.length_eq, List.length_map, hr0]; rfl
        exact ⟨a, c, by rw [h2, h6, hl], h5⟩
      have HBW := Lib.hid (HB1.out.trans (hV.below.mono HB1.out.size))
      have HSZ := Lib.hid (HBW.out.size)
      clear hV hr0 HV
      go_wp2_with fail
      refine hl0.mono ?_
      rintro e w5 ⟨a5, c5, rfl, h5⟩
      have HB5 := Lib.hid (HBW.out.trans (h5.mono HSZ.out))
      clear hl0 h5
      go_wp2_with fail
      go_ret
      exact ⟨rfl, HB5.out⟩
theorem ends_law (w : World) (hm : Mx w) {a : Option Addr} {c : Nat} (l : List Int) (hl : l.length ≤ maxLen) (hA : Nums w a l) :
    Calls Tryz.prog 3 #[.slice a l.length c] w fun e w' => e = .returned (.bool true) ∧ Below w.heap.size w w' := by
  by_cases h0 : l.length = 0
  · rw [h0]
    exact ends_nil w hm
  · obtain ⟨g, off, rfl, hc0⟩ := hA 0 (by omega)
    refine ends_main w hm l hl (fun j hj => ?_) (World.block_lt_of_cell? w _ hc0)
    obtain ⟨g', off', e, hc⟩ := hA j hj
    injection e with e
    injection e with e1 e2 _
    subst e1 e2
    exact hc
end Go.Proofs.YtnjabanjgckeoaaGreatDoor
end
