/- Numbers of any size, names, moves as parts. -/
import Derived.Test.YtjhaihckbmkiaaaDoorTx1
import Derived.Deep.RegionHeld3
namespace Go.Proofs.YtjhaihckbmkiaaaDoor
open Go.RowKit
set_option linter.unusedVariables false
set_option linter.unusedSimpArgs false
set_option maxRecDepth 100000

/-- Four bytes of whatever number. -/
def le4m (n : Int) : List Int := le4 (n % 4294967296)
theorem le4m_byts (n : Int) : Byts (le4m n) := le4_byts _ (Int.emod_nonneg _ (by decide)) (Int.emod_lt_of_pos _ (by decide))
theorem le4m_small (n : Int) (h0 : 0 ≤ n) (h1 : n < 4294967296) : le4m n = le4 n := by unfold le4m; rw [Int.emod_eq_of_lt h0 h1]
theorem le4m_length (n : Int) : (le4m n).length = 4 := rfl
theorem num_all (n : Int) (w : World) :
    Calls Tryd.prog 20 #[.int .i64 n] w fun e w' => ∃ v, e = .returned v ∧ Own w w' [rowU v (le4m n)] := by
  have h1 : n % 4294967296 % 256 = n % 256 := by omega
  have HE := Lib.hid (show le4m n = [n % 4294967296 % 256, n % 4294967296 / 256 % 256, n % 4294967296 / 65536 % 256, n % 4294967296 / 16777216] from rfl)
  have g0 : 0 ≤ n % 4294967296 := by omega
  have g1 : n % 4294967296 < 4294967296 := by omega
  rw [HE.out, h1]
  clear HE h1
  go_enter Tryd.func20, Tryd.ntmps20
  go_wp2_with fail
  go_ret
  exact ⟨_, rfl, (Own.start w).made 5 1 #[.int .u8 (n % 256), .int .u8 (n % 4294967296 / 256 % 256), .int .u8 (n % 4294967296 / 65536 % 256), .int .u8 (n % 4294967296 / 16777216)] 4 rfl (by unfold maxLen; decide)⟩
def textB (s : ByteArray) : List Int := sizedL (sb s)
theorem textB_len (s : ByteArray) : (textB s).length = s.size + 4 := by unfold textB; rw [sizedL_length, sb_length]
theorem textB_byts (s : ByteArray) (h : s.size ≤ 2000000) : Byts (textB s) := sizedL_byts _ (sb_byts _) (by rw [sb_length]; omega)
def packM (m : MvD) : List Int := le4m m.kind ++ textB m.path
theorem packM_len (m : MvD) : (packM m).length = m.path.size + 8 := by
  unfold packM; rw [List.length_append, le4m_length, textB_len]; omega
theorem packM_byts (m : MvD) (h : m.path.size ≤ 2000000) : Byts (packM m) := (le4m_byts _).append (textB_byts _ h)

set_option maxHeartbeats 8000000 in
theorem names_pack (a : Option Addr) (c : Nat) (xs : List ByteArray) (w : World) (hS : SlcA w a 1 (xs.map fun x => [Value.string x])) (hn : xs.length ≤ 1000000) (hs : ∀ x ∈ xs, x.size ≤ 2000000) (hl : ((xs.map textB).flatten).length < 4294967296) :
    Calls Tryd.prog 24 #[.slice a xs.length c] w fun e w' => ∃ v, e = .returned v ∧ Own w w' [rowU v (sizedL (xs.map textB).flatten)] := by
  have Hst := Lib.hid (show LsRel w textB xs (.slice none 0 0) (.int .i64 0) w from ⟨0, [], [], rfl, Nat.zero_le _, (Own.start w).nil _ _, (fun p hp => nomatch hp), rfl, rfl⟩)
  have HS := Lib.hid hS
  have HB := Lib.hid (fun x (h : x ∈ xs) => textB_byts x (hs x h))
  have Hp := Lib.hid (show ∀ x ∈ xs, ∀ w' : World, Calls Tryd.prog 21 #[.string x] w' fun e w'' => ∃ v, e = .returned v ∧ Own w' w'' [rowU v (textB x)] from fun x h w' => text_any x w' (by have := hs x h; omega))
  have Hl := Lib.hid hl
  obtain ⟨inf, hi0, hi1, hi2, hi3⟩ := part_infoA
  clear hS hl hs
  go_enter Tryd.func24, Tryd.ntmps24
  go_wp2_with fail
  go_loopw [3, 8] (fun v i wr => LsRel w textB xs v i wr) (fun _ i _ => xs.length - (intOf i).toNat)
  case atStart => exact Hst.out
  case round =>
    obtain ⟨k, PS, L1, rfl, hk, hO, hps, hall, hlen⟩ := hrel
    clear Hst
    by_cases hlt : k < xs.length
    · obtain ⟨g, o, rfl, hr⟩ := HS.out.later hO.below k (by rw [List.length_map]; exact hlt)
      rw [List.getElem_map] at hr
      rw [Nat.mul_one] at hr
      have r0 := hr 0 _ rfl
      rw [Nat.add_zero] at r0
      obtain ⟨fa, fc, hv, _, _⟩ := Own.sized (h := (show Own w wr (⟨49, 1, u3, PS.length, PS.map (·.1)⟩ :: L1) from hO))
      have Hstep := Lib.hid (fun v9 v2 w9 h => LsRel.step (w := w) (w9 := w9) (f := textB) (v9 := v9) (v2 := v2) hlt h hps (HB.out _ (List.getElem_mem hlt)) hall hlen)
      have hcall0 := Hp.out _ (List.getElem_mem hlt)
      have Hb1 := Lib.hid (show PS.length + 1 ≤ maxLen by unfold maxLen; omega)
      have Hb2 := Lib.hid (show (PS.length + 1) * 24 ≤ 140737488355328 by omega)
      clear hr hps hall hlen
      generalize textB xs[k] = zs at *
      generalize xs[k] = x at *
      have hcall := hcall0 wr
      have HO := Lib.hid hO
      subst hv
      clear hO hcall0
      go_wp2_with fail
      refine hcall.mono ?_
      rintro e w2 ⟨v2, rfl, hO2⟩
      obtain ⟨a2, n2, c2, rfl⟩ := hO2.formA
      have HO2 := Lib.hid (show Own w (w2.alloc (.cells #[.slice a2 n2 c2] 49)) (⟨49, 1, .slice fa PS.length fc, PS.length, PS.map (·.1)⟩ :: rowU (.slice a2 n2 c2) zs :: L1) from ((HO.out.join hO2).swap).alloc _)
      have Hsrc := Lib.hid (src_oneA w2 (.slice a2 n2 c2) 49 rfl)
      clear hcall hO2 HO
      go_wp2_with (at_builtin; refine wpList_append_src rfl (.tmp 12) (.tmp 15) 48 rfl (.slice fa PS.length fc) PS.length (PS.map (·.1)) (.slice (some ⟨w2.heap.size, 0, none⟩) 1 1) 1 [.slice a2 n2 c2] rfl rfl HO2.out inf (.slice none 0 0) 24 Tryd.underlying48 hi0 hi1 hi2 hi3 rfl (by decide) Hsrc.out rfl Hb1.out Hb2.out ?_)
      intro v9 w9 hO9
      have HX := Lib.hid (Hstep.out _ _ _ hO9)
      obtain ⟨a9, c9, hv9, _, _⟩ := Own.sized (h := hO9)
      subst hv9
      clear hO9 HO2 Hsrc Hb1 Hb2 Hstep
      go_wp2_with fail
      go_roundw
      case rel => exact HX.out _ (by go_num)
      case measure => simp [intOf]; omega
    · obtain ⟨a2, c2, rfl, hparts⟩ := LsRel.parts (f := textB) (xs := xs) hO hps
      have hke : k = xs.length := by omega
      rw [hke, List.take_length] at hall
      have hli := list_any a2 c2 PS wr hparts (by unfold maxLen; omega) (by rw [hall]; exact Hl.out)
      rw [hall] at hli
      have HO := Lib.hid hO
      have hkn : ¬ (k : Int) < (xs.length : Int) := by omega
      clear hO hps hall hparts hlen hke
      go_wp2_with fail
      refine hli.mono ?_
      rintro e w5 ⟨v5, rfl, hO5⟩
      obtain ⟨a5, n5, c5, rfl⟩ := hO5.formA
      have HO5 := Lib.hid ((HO.out.join hO5).only (r := rowU (.slice a5 n5 c5) (sizedL (xs.map textB).flatten)) (by simp))
      clear hO5 hli
      go_wp2_with fail
      go_ret
      exact ⟨_, rfl, HO5.out⟩
/-- How far the list of the moves' parts has come; some rows are kept beside it. -/
def MsRel (w : World) (bx : Rw) (xs : List MvD) (v i : Value) (wr : World) : Prop :=
  ∃ (k : Nat) (PS : List (Value × List Int)) (L1 : List Rw), i = .int .i64 k ∧ k ≤ xs.length ∧ Own w wr (rowPs v PS :: L1) ∧ bx ∈ L1 ∧ (∀ p ∈ PS, rowU p.1 p.2 ∈ L1 ∧ Byts p.2) ∧ allOf PS = ((xs.take k).map packM).flatten ∧ PS.length = 2 * k
theorem lit_src2 (w : World) (T : TypeId) (a b : Value) (ha : a.oneCell' = true) (hb : b.oneCell' = true) : Src (w.alloc (.cells #[a, b] T)) (.slice (some ⟨w.heap.size, 0, none⟩) 2 2) 2 [a, b] := by
  refine .inr ⟨_, _, rfl, fun j u hj => ?_, fun u hu => ?_⟩
  · rw [Addr.add_mid, Nat.zero_add, World.cell?_alloc_new]
    have e : (#[a, b] : Array Value)[j]? = ([a, b] : List Value)[j]? := by rw [← Array.getElem?_toList]
    rw [e]; exact hj
  · simp only [List.mem_cons, List.not_mem_nil, or_false] at hu
    rcases hu with rfl | rfl <;> assumption
theorem MsRel.step {w w9 : World} {bx : Rw} {xs : List MvD} {k : Nat} {v9 va vb : Value} {PS : List (Value × List Int)} {L1 L2 : List Rw} (hlt : k < xs.length) (hO : Own w w9 (⟨49, 1, v9, PS.length + 2, PS.map (·.1) ++ [va, vb]⟩ :: L2)) (ha : rowU va (le4m xs[k].kind) ∈ L2) (hb : rowU vb (textB xs[k].path) ∈ L2) (hL : ∀ x ∈ L1, x ∈ L2) (hbx : bx ∈ L1) (hps : ∀ p ∈ PS, rowU p.1 p.2 ∈ L1 ∧ Byts p.2) (hz : xs[k].path.size ≤ 2000000) (hall : allOf PS = ((xs.take k).map packM).flatten) (hl : PS.length = 2 * k) :
    ∀ i, i = .int .i64 ((k + 1 : Nat) : Int) → MsRel w bx xs v9 i w9 := fun i hi => by
  refine ⟨k + 1, PS ++ [(va, le4m xs[k].kind), (vb, textB xs[k].path)], L2, hi, hlt, ?_, hL _ hbx, fun p hp => ?_, ?_, by simp [hl]; omega⟩
  · have e : rowPs v9 (PS ++ [(va, le4m xs[k].kind), (vb, textB xs[k].path)]) = ⟨49, 1, v9, PS.length + 2, PS.map (·.1) ++ [va, vb]⟩ := by unfold rowPs; simp
    rw [e]; exact hO
  · rcases List.mem_append.1 hp with hp | hp
    · exact ⟨hL _ (hps p hp).1, (hps p hp).2⟩
    · simp only [List.mem_cons, List.not_mem_nil, or_false] at hp
      rcases hp with rfl | rfl
      · exact ⟨ha, le4m_byts _⟩
      · exact ⟨hb, textB_byts _ hz⟩
  · rw [List.take_succ_eq_append_getElem hlt, List.map_append, List.flatten_append, ← hall]
    unfold allOf packM
    rw [List.map_append, List.flatten_append]
    simp
end Go.Proofs.YtjhaihckbmkiaaaDoor
