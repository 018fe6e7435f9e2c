/- Texts one behind the other, each in a section of its own: what calls make of memory, step by step. -/
import Derived.Test.YtokbkgckpakdgaaGreatDoorPackVolHolds13
import Derived.Shelf.Vars

/- A volume that lies on a disk is opened again. -/
section
namespace Go.Proofs.YtokbkgckpakdgaaGreatDoor
open Go.RowKit
open Go.ChangeMaps (setBlock)
set_option linter.unusedVariables false
set_option linter.unusedSimpArgs false
set_option maxRecDepth 100000

section
variable {w0 w w' : World} {S S' S1 : Blocks} {R L L' L1 M : List Rw} {v c n d t : Nat} {T T' Tc T1 : Tr} {K : Blocks} {sv : Value} {zs : List Int} {E : Et} {B : Nat}
/-- Records that are operations, and the trees that they make one behind the other. -/
structure Redos (q : Int) (ls : List (List OpB)) (Es : Nat → Et) : Prop where
  first : Es 0 = E0 (max q 0)
  ok : ∀ k (h : k < ls.length), 0 < ls[k].length ∧ (∀ o ∈ ls[k], OkB o) ∧ (packsB ls[k]).length ≤ 100000 ∧ ls[k].length ≤ 100 ∧ (DoE (Es k) (ls[k].map toOpE)).1 = 0 ∧ ∀ ids : List Int, ids.Perm (looseE (DoE (Es k) (ls[k].map toOpE)).2.nodes) → reapE (DoE (Es k) (ls[k].map toOpE)).2 ids = Es (k + 1)
  many : ls.length ≤ 100
theorem Redos.inv {q : Int} {ls : List (List OpB)} {Es : Nat → Et} (h : Redos q ls Es) : ∀ k, k ≤ ls.length → Inv (Es k) (100 * k) := by
  intro k
  induction k with
  | zero => intro _; rw [h.first]; exact inv_newE _
  | succ k ih =>
    intro hk
    obtain ⟨_, _, _, h4, _, h6⟩ := h.ok k (by omega)
    have h1 := DoE_inv (ih (by omega)) (ls[k].map toOpE)
    have h2 := reapE_inv (looseE (DoE (Es k) (ls[k].map toOpE)).2.nodes) h1
    rw [h6 _ (List.Perm.refl _)] at h2
    exact h2.mono (by rw [List.length_map]; omega)
theorem Pc.form3 {u : Value} (h : Pc L u zs) : ∃ a n c, u = .slice a n c ∧ True := by
  obtain ⟨a, c, e, _⟩ := h
  exact ⟨a, _, c, e, trivial⟩
def recB2 (l : List OpB) : List Int := 111 :: packsB l
def MadeRel (w0 : World) (S : Blocks) (L : List Rw) (n t : Nat) (E : Et) (wr : World) : Prop :=
  ∃ S' L' T, Own ⟨w0, S'⟩ wr L' ∧ (∀ x ∈ L, x ∈ L') ∧ Tree S' (Pc L') t T ∧ Rep T E ∧ (∀ b x, (b, x) ∈ S → (b, x) ∈ S') ∧ (∀ b ∈ t :: T.foot, n ≤ b)
set_option maxHeartbeats 8000000 in
theorem made_live (hO : Own ⟨w0, S⟩ w L) (hm : Mx w0) (q : Int) (hq : (Lit.int .i64 q).wf = true) {ls : List (List OpB)} {Es : Nat → Et} (hr : Redos q ls Es) (hl0 : 0 < ls.length) (lv : Value) (vs : List Value) (hrow : rowV lv vs ∈ L) (hvl : vs.length = ls.length) (hvs : ∀ i (h : i < ls.length), ∃ u, vs[i]? = some u ∧ Pc L u (recB2 ls[i])) :
    Calls Tryz.prog 46 #[.int .i64 q, lv] w fun e w' => ∃ t, e = .returned (.tuple #[.pointer (some ⟨t, 0, none⟩), .bool true]) ∧ MadeRel w0 S L w.heap.size t (Es ls.length) w' := by
  have hrw := hO.only hrow
  obtain ⟨g, cp, rfl, _, _, hcp, hcm⟩ := Own.form (h := (show Own ⟨w0, S⟩ w (⟨53, 1, lv, vs.length, vs⟩ :: []) from hrw)) (by omega)
  rw [hvl]
  have hcell : ∀ w' S' L', Own ⟨w0, S'⟩ w' L' → (∀ x ∈ L, x ∈ L') → ∀ i (h : i < ls.length), ∃ u, w'.cell? ⟨g, i, none⟩ = some u ∧ Pc L' u (recB2 ls[i]) := fun w' S' L' k1 k2 i hi => by
    obtain ⟨u, h1, h2⟩ := hvs i hi
    refine ⟨u, ?_, h2.mono k2⟩
    rw [Own.cell (h := (show Own ⟨w0, S'⟩ w' (⟨53, 1, .slice (some ⟨g, 0, none⟩) vs.length cp, vs.length, vs⟩ :: []) from k1.only (k2 _ hrow))) i (by omega)]
    exact h1
  have Hcell := Lib.hid hcell
  have HO := Lib.hid hO
  have Hr := Lib.hid hr
  have hcp0 : ¬ cp = 0 := by omega
  have hcp1 : ls.length ≤ cp := by omega
  have hcm2 : cp ≤ 9223372036854775807 := by unfold maxLen at hcm; omega
  have hmany := hr.many
  have Hq := Lib.hid hq
  have Hlt := Lib.hid (show ∀ b x, (b, x) ∈ S → b < w.heap.size from fun b x hx => (hO.atLt hx).2)
  clear hO hcell hrow hvl hvs hrw hr hcp hcm hq
  obtain ⟨N, hN⟩ : ∃ N, ls.length = N := ⟨_, rfl⟩
  rw [hN] at hcp1 hl0 hmany ⊢
  have HN := Lib.hid hN
  clear hN
  go_enter Tryz.func46, Tryz.ntmps46
  go_wp2_with fail
  go_loopw [6, 17] (fun r iv wr => ∃ k : Nat, k ≤ N ∧ r = .slice none 0 0 ∧ iv = .int .i64 k ∧ Own ⟨w0, S⟩ wr L ∧ w.heap.size ≤ wr.heap.size) (fun _ iv _ => N - (intOf iv).toNat)
  case atStart => exact ⟨0, Nat.zero_le _, rfl, rfl, HO.out, Nat.le_refl _⟩
  case round =>
    obtain ⟨k, hk, rfl, rfl, hOr, hwr⟩ := hrel
    by_cases hkn : k < N
    · obtain ⟨u, hc, hu⟩ := Hcell.out wr S L hOr (fun x hx => hx) k (by rw [HN.out]; exact hkn)
      have hO1 := hOr.newB (litB 114)
      have hlit : (wr.alloc (litB 114)).heap[wr.heap.size]? = some (litB 114) := hO1.at (List.mem_cons_self ..)
      have hby := hu.by hO1
      obtain ⟨g2, o2, c2, rfl, _, _, _⟩ := hby.cells (by simp [recB2])
      have hcut := cut_no (wr.alloc (litB 114)) g2 o2 c2 wr.heap.size 111 (packsB (ls[k]'(by rw [HN.out]; exact hkn))) 114 hby hlit (by decide) (by decide) (by decide)
      have hln : (recB2 (ls[k]'(by rw [HN.out]; exact hkn))).length = (packsB (ls[k]'(by rw [HN.out]; exact hkn))).length + 1 := rfl
      rw [hln] at hc
      have hcs := conv_constL wr #[.int .u8 114] 1 1
      have HO2 := Lib.hid (show Own ⟨w0, S⟩ (wr.alloc (litB 114)) L ∧ w.heap.size ≤ (wr.alloc (litB 114)).heap.size from ⟨hOr.alloc _, by simp; omega⟩)
      generalize (packsB (ls[k]'(by rw [HN.out]; exact hkn))).length + 1 = m at *
      have hb63 : (k : Int) < (N : Int) := by exact_mod_cast hkn
      change Calls _ _ _ (wr.alloc (.cells #[.int .u8 114] 5 (1, 2))) _ at hcut
      clear hO1 hlit hby hu hln hOr hwr
      go_wp2_with fail
      refine hcut.mono ?_
      rintro e w2 ⟨rfl, hw2⟩
      have HO3 := Lib.hid (show Own ⟨w0, S⟩ w2 L ∧ w.heap.size ≤ w2.heap.size from hw2 ▸ HO2.out)
      clear hcut hcs hw2 HO2 hc
      go_wp2_with fail
      go_roundw
      case rel => exact ⟨k + 1, by omega, rfl, by go_num, HO3.out.1, HO3.out.2⟩
      case measure => simp [intOf]; omega
    · have hke : k = N := by omega
      subst hke
      have hnew := tnew_any hOr (D := Pc L) (Pc.nil L) q Hq.out
      have hb63 : ¬ ((k : Int) < (k : Int)) := Int.lt_irrefl _
      have Hwr := Lib.hid hwr
      clear hOr hwr
      go_wp2_with fail
      refine hnew.mono ?_
      rintro e w1 ⟨S1, rfl, h1, h2, h3⟩
      obtain ⟨t, ht⟩ : ∃ t, t = wr.heap.size + 3 := ⟨_, rfl⟩
      have HM := Lib.hid (show MadeRel w0 S L w.heap.size t (Es 0) w1 from ⟨S1, L, _, h1, fun _ h => h, by rw [ht]; exact h2, by rw [Hr.out.first]; exact new_rep _ q, h3, fun b hb => by
        rw [ht] at hb
        have hb2 : b ∈ ([wr.heap.size + 3, wr.heap.size, wr.heap.size + 1 + 1, wr.heap.size + 1] : List Nat) := hb
        simp at hb2
        have := Hwr.out
        omega⟩)
      rw [← ht]
      clear hnew h1 h2 h3 ht
      go_wp2_with fail
      go_loopw [12, 50] (fun r iv wr => ∃ j : Nat, j ≤ k ∧ r = .bool true ∧ iv = .int .i64 j ∧ MadeRel w0 S L w.heap.size t (Es j) wr) (fun _ iv _ => k - (intOf iv).toNat)
      case atStart => exact ⟨0, Nat.zero_le _, rfl, rfl, HM.out⟩
      case round =>
        obtain ⟨j, hj, rfl, rfl, S4, L4, T4, g1, g2, g3, g4, g5, g6⟩ := hrel
        by_cases hjn : j < k
        · obtain ⟨u, hc, hu⟩ := Hcell.out _ S4 L4 g1 g2 j (by rw [HN.out]; exact hjn)
          obtain ⟨q1, q2, q3, q4, q5, q6⟩ := Hr.out.ok j (by rw [HN.out]; exact hjn)
          have hrd := redo_any g1 g3 g4 (Hr.out.inv j (by rw [HN.out]; omega)) hm u (ls[j]'(by rw [HN.out]; exact hjn)) hu q1 q2 q3 (by omega) q5
          have Hgo := Lib.hid (fun e w5 (hd : RedoAt w0 S4 L4 t T4 wr (DoE (Es j) ((ls[j]'(by rw [HN.out]; exact hjn)).map toOpE)).2 e w5) => (show e = .returned (.bool true) ∧ MadeRel w0 S L w.heap.size t (Es (j + 1)) w5 from by
            obtain ⟨ids, hp, S5, L5, T5, k0, k1, k2, k3, k4, k5⟩ := hd
            refine ⟨k0, S5, L5, T5, k1, fun x hx => k2 x (g2 x hx), k3, by rw [← q6 ids hp]; exact k5, fun b x hb => ?_, fun b hb => ?_⟩
            · refine k4.kept b x (g5 b x hb) fun hm => ?_
              have := g6 b hm
              have := Hlt.out b x hb
              omega
            · rcases k4.fresh b hb with h7 | h7
              · exact g6 b h7
              · have := g6 t (List.mem_cons_self ..)
                have := (g1.atLt g3.at_.cells).2
                omega))
          obtain ⟨g2', o2, c2, rfl, _⟩ := hu.form3
          have hb63 : (j : Int) < (k : Int) := by exact_mod_cast hjn
          clear g1 g2 g3 g4 g5 g6 q1 q2 q3 q4 q5 q6 hu
          go_wp2_with (go_at_call 85; refine hrd.mono ?_; rintro e w5 hd; obtain ⟨rfl, hg⟩ := Hgo.out e w5 hd; have HG := Lib.hid hg; clear hd hg)
          go_roundw
          case rel => exact ⟨j + 1, by omega, rfl, by go_num, HG.out⟩
          case measure => simp [intOf]; omega
        · have hje : j = k := by omega
          subst hje
          have HP := Lib.hid (show MadeRel w0 S L w.heap.size t (Es j) wr from ⟨S4, L4, T4, g1, g2, g3, g4, g5, g6⟩)
          have hb63 : ¬ ((j : Int) < (j : Int)) := Int.lt_irrefl _
          clear g1 g2 g3 g4 g5 g6
          go_wp2_with fail
          go_ret2
          exact ⟨t, rfl, HP.out⟩
end
end Go.Proofs.YtokbkgckpakdgaaGreatDoor
end

/- A volume that lies on a disk is opened. -/
section
namespace Go.Proofs.YtokbkgckpakdgaaGreatDoor
open Go.RowKit
open Go.ChangeMaps (setBlock)
set_option linter.unusedVariables false
set_option linter.unusedSimpArgs false
set_option maxRecDepth 100000

section
variable {w0 w w' : World} {S S' S1 : Blocks} {R L L' L1 M : List Rw} {v c n d t : Nat} {T T' Tc T1 : Tr} {K : Blocks} {sv : Value} {zs : List Int} {E : Et} {B : Nat}
def liveX (t d l hm : Nat) (E : Et) (B : Nat) (D : Dk) (n h side used st : Nat) (recs : List (List Int)) : VX := ⟨t, d, l, hm, E, B, [], D, n, h, side, used, st, recs⟩
set_option maxHeartbeats 4000000 in
theorem vopen_live {D : Dk} {h side used st : Nat} {recs : List (List Int)} (hA : DkAt ⟨w0, S⟩ w d D L) (hL : LogLive D n h side used recs st) (hz : D.left = 0) (hm : Mx w0) (q : Int) (hq : (Lit.int .i64 q).wf = true) {ls : List (List OpB)} {Es : Nat → Et} (hr : Redos q ls Es) (hl0 : 0 < ls.length) (hrec : recs = ls.map recB2) :
    Calls Tryz.prog 13 #[.pointer (some ⟨d, 0, none⟩), .int .i64 q] w fun e w' => ∃ v t l hm S' R L' T, e = .returned (.tuple #[.pointer (some ⟨v, 0, none⟩), .int .i64 0]) ∧ VolIn w0 S' R L' v (liveX t d l hm (Es ls.length) (100 * ls.length) D n h side used st recs) T w' ∧ (∀ x ∈ L, x ∈ L') ∧ (∀ b x, (b, x) ∈ S → (b, x) ∈ S') := by
  have hop := open_live hA hL
  have hmk : ∀ w, (Instr.makeMap 49 none).run Tryz.prog w = .ok (.map (some w.heap.size)) (w.alloc (.map #[] 0)) := fun w => rfl
  have Hr := Lib.hid hr
  have Hv := Lib.hid hL
  have Hz := Lib.hid hz
  have Hrec := Lib.hid hrec
  have HI := Lib.hid (hr.inv ls.length (Nat.le_refl _))
  clear hA hL hz hr hrec
  go_enter Tryz.func13, Tryz.ntmps13
  go_wp2_with fail
  refine hop.mono ?_
  rintro e w1 ⟨l, rfl, hl⟩
  have hls := logs_any hl Hv.out.holds.all Hv.out.many
  have Hl := Lib.hid hl
  clear hop hl
  go_wp2_with fail
  refine hls.mono ?_
  rintro e w2 ⟨lv, vs, M, rfl, hO2, hL2⟩
  obtain ⟨R, hO1, hlog⟩ := Hl.out.openB
  have hO4 : Own ⟨w0, S⟩ w2 (R ++ ((rowV lv vs :: M) ++ L)) := (hO1.join hO2).perm (by
    rw [← List.append_assoc, ← List.append_assoc]; exact List.perm_append_comm.append_right L)
  have hrl : recs.length = ls.length := by rw [Hrec.out, List.length_map]
  have hmd := made_live hO4.shelve hm q hq Hr.out hl0 lv vs (List.mem_append_left _ (List.mem_cons_self ..)) (hL2.1.trans hrl) (fun i hi => by
    have hi2 : i < vs.length := by rw [hL2.1, hrl]; exact hi
    refine ⟨vs[i], List.getElem?_eq_getElem hi2, (hL2.2 i vs[i] (recB2 ls[i]) (List.getElem?_eq_getElem hi2) ?_).mono fun x hx => List.mem_append_left _ (List.mem_cons_of_mem _ hx)⟩
    rw [Hrec.out, List.getElem?_map, List.getElem?_eq_getElem hi]; rfl)
  have Hlog := Lib.hid hlog
  have HO4 := Lib.hid hO4
  clear hls hO2 hL2 hO1 hlog hO4 Hl hrl
  go_wp2_with fail
  refine hmd.mono ?_
  rintro e w3 ⟨t, rfl, S3, L3, T, hO5, hL5, hT5, hR5, hS5, hF5⟩
  have hO6 := HO4.out.unshelve hO5 (fun m hm => hS5 m.1 m.2 (List.mem_append_left _ hm))
  have hT6 : Tree (offR R S3) (Pc L3) t T := hT5.mono (fun b x hb hx => offR_mem.2 ⟨hx, HO4.out.freshR (hF5 b hb)⟩) (fun _ _ hh => hh)
  have hS6 : ∀ b x, (b, x) ∈ S → (b, x) ∈ offR R S3 := fun b x hx => offR_mem.2 ⟨hS5 b x (List.mem_append_right _ hx), HO4.out.offB hx⟩
  have hO7 := (hO6.newB (.map #[] 0)).newB (.cells #[.pointer (some ⟨t, 0, none⟩), .pointer (some ⟨d, 0, none⟩), .pointer (some ⟨l, 0, none⟩), .map (some w3.heap.size), .bool false] 51)
  rw [show (w3.alloc (.map #[] 0)).heap.size = w3.heap.size + 1 by simp] at hO7
  have hlow : ∀ b ∈ t :: T.foot, b < w3.heap.size := fun b hb => by
    obtain ⟨x, hx⟩ := kept_in hT6.at_ b hb
    exact (hO6.atLt hx).2
  have HP := Lib.hid (show VolIn w0 ((w3.heap.size + 1, .cells #[.pointer (some ⟨t, 0, none⟩), .pointer (some ⟨d, 0, none⟩), .pointer (some ⟨l, 0, none⟩), .map (some w3.heap.size), .bool false] 51) :: (w3.heap.size, .map #[] 0) :: offR R S3) R L3 (w3.heap.size + 1) (liveX t d l w3.heap.size (Es ls.length) (100 * ls.length) D n h side used st recs) T ((w3.alloc (.map #[] 0)).alloc (.cells #[.pointer (some ⟨t, 0, none⟩), .pointer (some ⟨d, 0, none⟩), .pointer (some ⟨l, 0, none⟩), .map (some w3.heap.size), .bool false] 51)) from
    ⟨hO7, Hlog.out, hT6.mono (fun b x _ hx => List.mem_cons_of_mem _ (List.mem_cons_of_mem _ hx)) (fun _ _ hh => hh), hR5, HI.out, List.mem_cons_self .., ⟨_, List.mem_cons_of_mem _ (List.mem_cons_self ..), MapO.empty KI⟩,
      ⟨fun hm => by have := hlow (w3.heap.size + 1) hm; omega, fun hm => by have := hlow w3.heap.size hm; omega, by show w3.heap.size + 1 ≠ w3.heap.size; omega⟩, Hv.out, Hz.out⟩)
  have HS := Lib.hid (fun b x (hx : (b, x) ∈ S) => List.mem_cons_of_mem (w3.heap.size + 1, Obj.cells #[.pointer (some ⟨t, 0, none⟩), .pointer (some ⟨d, 0, none⟩), .pointer (some ⟨l, 0, none⟩), .map (some w3.heap.size), .bool false] 51) (List.mem_cons_of_mem (w3.heap.size, Obj.map #[] 0) (hS6 b x hx)))
  have HL := Lib.hid (fun x (hx : x ∈ L) => hL5 x (List.mem_append_right _ hx))
  clear hO5 hL5 hT5 hR5 hS5 hF5 hO6 hT6 hS6 hO7 hlow hmd Hv Hz HO4 Hlog HI Hr Hrec
  go_wp2_with fail
  go_ret2
  exact ⟨_, _, _, _, _, _, _, _, rfl, HP.out, HL.out, HS.out⟩
end
end Go.Proofs.YtokbkgckpakdgaaGreatDoor
end

/- The law's volumes, as plain data. -/
section
namespace Go.Proofs.YtokbkgckpakdgaaGreatDoor
open Go.RowKit
open Go.ChangeMaps (setBlock)
set_option linter.unusedVariables false
set_option linter.unusedSimpArgs false
set_option maxRecDepth 100000

def pF : List UInt8 := [47, 102]
def pGg : List UInt8 := [47, 103]
def EV1 (q : Int) (A : List Int) : Et := ⟨q, 3, [(1, ⟨true, [(toB [102], 2)], [], 0⟩), (2, ⟨false, [], A, 1⟩)]⟩
def EVm (q : Int) (A B : List Int) : Et := ⟨q, 4, [(1, ⟨true, [(toB [102], 2), (toB [103], 3)], [], 0⟩), (2, ⟨false, [], A, 1⟩), (3, ⟨false, [], B, 1⟩)]⟩
def EV2 (q : Int) (A B : List Int) : Et := ⟨q, 4, [(1, ⟨true, [(toB [102], 3)], [], 0⟩), (2, ⟨false, [], A, 0⟩), (3, ⟨false, [], B, 1⟩)]⟩
def EV3 (q : Int) (B : List Int) : Et := ⟨q, 4, [(1, ⟨true, [(toB [102], 3)], [], 0⟩), (3, ⟨false, [], B, 1⟩)]⟩
def EVu (q : Int) (A : List Int) : Et := ⟨q, 3, [(1, ⟨true, [], [], 0⟩), (2, ⟨false, [], A, 0⟩)]⟩
def EVn (q : Int) : Et := ⟨q, 3, [(1, ⟨true, [], [], 0⟩)]⟩
theorem step_1 (q : Int) (A : List Int) (hA : A.length ≤ 3500) : stepE (E0 q) ⟨2, pF, [], A⟩ = (0, EV1 q A) := by
  have hp : placeE (E0 q) pF = (0, some (1, ⟨true, [], [], 0⟩, [102])) := by rfl
  unfold stepE
  rw [if_neg (show ¬ ((2 : Int) < 0 ∨ (6 : Int) < 2) by decide), hp]
  simp only
  rw [if_neg (by omega)]
  rfl
theorem step_m (q : Int) (A B : List Int) (hB : B.length ≤ 3500) : stepE (EV1 q A) ⟨2, pGg, [], B⟩ = (0, EVm q A B) := by
  have hp : placeE (EV1 q A) pGg = (0, some (1, ⟨true, [(toB [102], 2)], [], 0⟩, [103])) := by rfl
  unfold stepE
  rw [if_neg (show ¬ ((2 : Int) < 0 ∨ (6 : Int) < 2) by decide), hp]
  simp only
  rw [if_neg (by omega)]
  rfl
theorem step_2 (q : Int) (A B : List Int) : stepE (EVm q A B) ⟨5, pGg, pF, []⟩ = (0, EV2 q A B) := by rfl
theorem step_u (q : Int) (A : List Int) : stepE (EV1 q A) ⟨6, pF, [], []⟩ = (0, EVu q A) := by rfl
theorem over_ok' {E : Et} (h1 : E.nodes.length ≤ 128) (h2 : (sumE E.nodes : Int) ≤ E.quota) : overE E = 0 := by
  unfold overE
  rw [if_neg (by omega), if_neg (by omega)]
theorem DoE_one {E E' : Et} {o : OpE} (h : stepE E o = (0, E')) (ho : overE E' = 0) : DoE E [o] = (0, E') := by
  have e : doS E [o] = (0, E') := by
    unfold doS
    rw [h]; rfl
  unfold DoE
  rw [e]
  simp only [if_true]
  rw [if_pos ho]
theorem DoE_two {E Em E' : Et} {o p : OpE} (h : stepE E o = (0, Em)) (h2 : stepE Em p = (0, E')) (ho : overE E' = 0) : DoE E [o, p] = (0, E') := by
  have e : doS E [o, p] = (0, E') := by
    unfold doS
    rw [h]
    simp only [if_true]
    unfold doS
    rw [h2]; rfl
  unfold DoE
  rw [e]
  simp only [if_true]
  rw [if_pos ho]
theorem do_1 (q : Int) (A : List Int) (hA : A.length ≤ 1000) (hq : 1000 ≤ q) : DoE (E0 q) [⟨2, pF, [], A⟩] = (0, EV1 q A) :=
  DoE_one (step_1 q A (by omega)) (over_ok' (by show 2 ≤ 128; decide) (by show ((([0, A.length] : List Nat).sum : Nat) : Int) ≤ q; simp; omega))
theorem do_2 (q : Int) (A B : List Int) (hA : A.length ≤ 1000) (hB : B.length ≤ 1000) (hq : 2000 ≤ q) : DoE (EV1 q A) [⟨2, pGg, [], B⟩, ⟨5, pGg, pF, []⟩] = (0, EV2 q A B) :=
  DoE_two (step_m q A B (by omega)) (step_2 q A B) (over_ok' (by show 3 ≤ 128; decide) (by show ((([0, A.length, B.length] : List Nat).sum : Nat) : Int) ≤ q; simp; omega))
theorem do_u (q : Int) (A : List Int) (hA : A.length ≤ 1000) (hq : 1000 ≤ q) : DoE (EV1 q A) [⟨6, pF, [], []⟩] = (0, EVu q A) :=
  DoE_one (step_u q A) (over_ok' (by show 2 ≤ 128; decide) (by show ((([0, A.length] : List Nat).sum : Nat) : Int) ≤ q; simp; omega))
theorem loose_1 (q : Int) (A : List Int) : looseE (EV1 q A).nodes = [] := by rfl
theorem loose_2 (q : Int) (A B : List Int) : looseE (EV2 q A B).nodes = [2] := by rfl
theorem loose_3 (q : Int) (B : List Int) : looseE (EV3 q B).nodes = [] := by rfl
theorem loose_u (q : Int) (A : List Int) : looseE (EVu q A).nodes = [2] := by rfl
theorem loose_n (q : Int) : looseE (EVn q).nodes = [] := by rfl
theorem reap_2 (q : Int) (A B : List Int) : reapE (EV2 q A B) [2] = EV3 q B := by rfl
theorem reap_u (q : Int) (A : List Int) : reapE (EVu q A) [2] = EVn q := by rfl
theorem find_1 (q : Int) (A : List Int) : findX (EV1 q A) pF = some 2 := by rfl
theorem dir_1 (q : Int) (A : List Int) : dirX (EV1 q A) pF = false := by rfl
/-- The law's operations, packed. -/
def oA (A : List Int) : OpB := ⟨2, [47, 102], [], A⟩
def oB (B : List Int) : OpB := ⟨2, [47, 103], [], B⟩
def oR : OpB := ⟨5, [47, 103], [47, 102], []⟩
theorem oA_ok {A : List Int} (hz : Byts A) (hl : A.length ≤ 1000) : OkB (oA A) := ⟨by show (0 : Int) ≤ 2 ∧ (2 : Int) ≤ 6; decide, ⟨fun z hz => by simp [oA] at hz; omega, by show 2 ≤ 40; decide⟩, ⟨Byts.nil, by show 0 ≤ 40; decide⟩, hz, by show A.length ≤ 3500; omega⟩
theorem oB_ok {B : List Int} (hz : Byts B) (hl : B.length ≤ 1000) : OkB (oB B) := ⟨by show (0 : Int) ≤ 2 ∧ (2 : Int) ≤ 6; decide, ⟨fun z hz => by simp [oB] at hz; omega, by show 2 ≤ 40; decide⟩, ⟨Byts.nil, by show 0 ≤ 40; decide⟩, hz, by show B.length ≤ 3500; omega⟩
theorem oR_ok : OkB oR := ⟨by show (0 : Int) ≤ 5 ∧ (5 : Int) ≤ 6; decide, ⟨fun z hz => by simp [oR] at hz; omega, by show 2 ≤ 40; decide⟩, ⟨fun z hz => by simp [oR] at hz; omega, by show 2 ≤ 40; decide⟩, Byts.nil, by show 0 ≤ 3500; decide⟩
def lsH (A B : List Int) : List (List OpB) := [[oA A], [oB B, oR]]
def EsH (A B : List Int) : Nat → Et
  | 0 => E0 5000
  | 1 => EV1 5000 A
  | _ => EV3 5000 B
theorem len_A (A : List Int) : (packsB [oA A]).length = A.length + 18 := by simp [packsB, packB, oA, le4, sizedL]
theorem len_B (B : List Int) : (packsB [oB B, oR]).length = B.length + 38 := by simp [packsB, packB, oB, oR, le4, sizedL]
theorem redos_H {A B : List Int} (ha : Byts A) (hb : Byts B) (hA : A.length ≤ 1000) (hB : B.length ≤ 1000) : Redos 5000 (lsH A B) (EsH A B) := by
  refine ⟨rfl, fun k hk => ?_, by show 2 ≤ 100; decide⟩
  match k, hk with
  | 0, _ =>
    have e : DoE (EsH A B 0) ((lsH A B)[0].map toOpE) = (0, EV1 5000 A) := do_1 5000 A hA (by decide)
    refine ⟨by show 0 < 1; decide, fun o ho => by rw [List.mem_singleton.1 ho]; exact oA_ok ha hA, by show (packsB [oA A]).length ≤ _; rw [len_A]; omega, by show 1 ≤ 100; decide, by rw [e], fun ids hp => ?_⟩
    rw [e] at hp ⊢
    rw [loose_1] at hp
    rw [List.perm_nil.1 hp]; rfl
  | 1, _ =>
    have e : DoE (EsH A B 1) ((lsH A B)[1].map toOpE) = (0, EV2 5000 A B) := do_2 5000 A B hA hB (by decide)
    refine ⟨by show 0 < 2; decide, fun o ho => ?_, by show (packsB [oB B, oR]).length ≤ _; rw [len_B]; omega, by show 2 ≤ 100; decide, by rw [e], fun ids hp => ?_⟩
    · rcases List.mem_cons.1 ho with rfl | ho
      · exact oB_ok hb hB
      · rw [List.mem_singleton.1 ho]; exact oR_ok
    · rw [e] at hp ⊢
      rw [loose_2] at hp
      rw [List.perm_singleton.1 hp]; exact reap_2 5000 A B
  | k + 2, h => exact absurd h (by show ¬ k + 2 < 2; omega)
section
variable {w0 w w' : World} {S S' S1 : Blocks} {R L L' L1 M : List Rw} {v c n d t b : Nat} {T T' Tc T1 : Tr} {K : Blocks} {sv : Value} {zs : List Int} {E : Et} {B : Nat} {ops : List OpD} {xs : List OpE} {C : Array Value}
/-- Operations that are written out. -/
theorem Ops.lit (hb : (b, .cells C 55) ∈ S) (hC : C.toList = (ops.map OpD.cells).flatten) (hlen : xs.length = ops.length) (hin : ∀ i (h : i < ops.length), OpIn w0 S L ops[i] (xs[i]'(by omega))) : Ops w0 S L (some ⟨b, 0, none⟩) ops xs := by
  refine ⟨hlen, fun w' S' L' k1 k2 k3 i hi => ⟨b, 0, rfl, fun j u hj => ?_⟩, hin⟩
  have hj4 : j < 4 := by
    have := (List.getElem?_eq_some_iff.1 hj).1
    exact this
  rw [k1.cellB (k2 _ _ hb), ← Array.getElem?_toList, hC, Nat.zero_add, flatO _ i j hi hj4]
  exact hj
theorem op_bytesV (k : Int) (p q : ByteArray) (hp : p.size ≤ 1000) (hq : q.size ≤ 1000) {a : Option Addr} {n c : Nat} (hn : n = zs.length) (hd : Byo w0 S [] L (.slice a n c) zs) : OpIn w0 S L ⟨k, p, q, a, n, c⟩ ⟨k, p.data.toList, q.data.toList, zs⟩ :=
  ⟨rfl, rfl, rfl, by unfold maxLen; show p.size ≤ _; omega, by unfold maxLen; show q.size ≤ _; omega, hn, hd⟩
theorem op_noneV (k : Int) (p q : ByteArray) (hp : p.size ≤ 1000) (hq : q.size ≤ 1000) : OpIn w0 S L ⟨k, p, q, none, 0, 0⟩ ⟨k, p.data.toList, q.data.toList, []⟩ :=
  ⟨rfl, rfl, rfl, by unfold maxLen; show p.size ≤ _; omega, by unfold maxLen; show q.size ≤ _; omega, rfl, .inl (Pc.nil L)⟩
/-- /f comes, with bytes. -/
theorem vdo_1 {X : VX} (h : VolIn w0 S R L v X T w) (hm : Mx w0) {a : Option Addr} {A : List Int} {cp cap : Nat} (hb : (b, .cells #[.int .i64 2, .string (toB pF), .string ⟨#[]⟩, .slice a A.length cp] 55) ∈ S) (hd : Byo w0 S [] L (.slice a A.length cp) A) {q : Int} (hX : X.E = E0 q) (hB : X.B = 0) (hu : X.used = 0) (hh : 49 ≤ X.h) (hst : X.st = 3) (hA : A.length ≤ 1000) (hq : 1000 ≤ q) :
    Calls Tryz.prog 16 #[.pointer (some ⟨v, 0, none⟩), .slice (some ⟨b, 0, none⟩) 1 cap] w fun e w' => e = .returned (.int .i64 0) ∧ ∃ D', VolTo w0 S L v X T w.heap.size { X with E := EV1 q A, B := 1, D := D', used := roomM (A.length + 19), recs := X.recs ++ [recB2 [oA A]], st := 103 } w' := by
  have hE := do_1 q A hA hq
  have hrec : recO (pks [⟨2, toB pF, ⟨#[]⟩, a, A.length, cp⟩] [⟨2, pF, [], A⟩]) = recB2 [oA A] := by
    show 111 :: packsD _ = 111 :: packsB _
    rw [packsD_B]; rfl
  have hlen : (recB2 [oA A]).length = A.length + 19 := by show (packsB [oA A]).length + 1 = _; rw [len_A]
  have := vdo_yes h hm (ops := [⟨2, toB pF, ⟨#[]⟩, a, A.length, cp⟩]) (xs := [⟨2, pF, [], A⟩]) (Ops.lit (b := b) hb rfl rfl (fun i hi => by
    match i, hi with
    | 0, _ => exact op_bytesV 2 (toB pF) ⟨#[]⟩ (by decide) (by decide) rfl hd
    | n + 1, h => exact absurd h (by simp))) cap (fun o ho => by rw [List.mem_singleton.1 ho]; exact ⟨by show (0 : Int) ≤ 2; decide, by show (2 : Int) < 4294967296; decide⟩) (fun o ho => by rw [List.mem_singleton.1 ho]; exact ⟨by show (toB pF).size ≤ 100000; decide, by show (0 : Nat) ≤ 100000; decide⟩) (fun x hx => by rw [List.mem_singleton.1 hx]; show A.length ≤ 100000; omega) (fun o ho => by rw [List.mem_singleton.1 ho]; exact .inr (.inr rfl)) (by show 0 < 1; decide) (by rw [hB]; show 0 + 1 ≤ 100000; decide) (by rw [hX, hE]) (by rw [hrec, hlen]; omega) (by rw [hrec, hlen, hu]; unfold roomM; omega) (by omega) (by rw [hX, hE, loose_1]; intro i hi; cases hi)
  refine this.mono fun e w' hd2 => ?_
  obtain ⟨e1, D', k⟩ := hd2
  refine ⟨e1, D', ?_⟩
  unfold doneX at k
  rw [hrec, hlen, hX, hE, hB, hu, hst] at k
  rw [show (0 : Nat) + roomM (A.length + 19) = roomM (A.length + 19) from Nat.zero_add _] at k
  exact k
end
end Go.Proofs.YtokbkgckpakdgaaGreatDoor
end

/- The document's example of a volume. -/
section
namespace Go.Proofs.YtokbkgckpakdgaaGreatDoor
open Go.RowKit
open Go.ChangeMaps (setBlock)
set_option linter.unusedVariables false
set_option linter.unusedSimpArgs false
set_option maxRecDepth 100000

section
variable {w0 w w' : World} {S S' S1 : Blocks} {R L L' L1 M : List Rw} {v c n d t b : Nat} {X : VX} {T T' Tc T1 : Tr} {K : Blocks} {sv : Value} {zs : List Int} {E : Et} {ops : List OpD} {xs : List OpE} {C : Array Value}
def oU : OpB := ⟨6, [47, 102], [], []⟩
/-- /f goes, while it is held. -/
theorem vdo_u (h : VolIn w0 S R L v X T w) (hm : Mx w0) {A : List Int} {cap : Nat} (hb : (b, .cells #[.int .i64 6, .string (toB pF), .string ⟨#[]⟩, .slice none 0 0] 55) ∈ S) {q : Int} (hX : X.E = EV1 q A) (hB : X.B = 1) (hh : X.used + 2 ≤ X.h) (hst : X.st = 103) (hA : A.length ≤ 1000) (hq : 1000 ≤ q) (hheld : 0 < heldN X.held 2) :
    Calls Tryz.prog 16 #[.pointer (some ⟨v, 0, none⟩), .slice (some ⟨b, 0, none⟩) 1 cap] w fun e w' => e = .returned (.int .i64 0) ∧ ∃ D', VolTo w0 S L v X T w.heap.size { X with E := EVu q A, B := 2, D := D', used := X.used + roomM 19, recs := X.recs ++ [recB2 [oU]], st := 203 } w' := by
  have hE := do_u q A hA hq
  have hrec : recO (pks [⟨6, toB pF, ⟨#[]⟩, none, 0, 0⟩] [⟨6, pF, [], []⟩]) = recB2 [oU] := by
    show 111 :: packsD _ = 111 :: packsB _
    rw [packsD_B]; rfl
  have hlen : (recB2 [oU]).length = 19 := by rfl
  have := vdo_yes h hm (ops := [⟨6, toB pF, ⟨#[]⟩, none, 0, 0⟩]) (xs := [⟨6, pF, [], []⟩]) (Ops.lit (b := b) hb rfl rfl (fun i hi => by
    match i, hi with
    | 0, _ => exact op_noneV 6 (toB pF) ⟨#[]⟩ (by decide) (by decide)
    | n + 1, h => exact absurd h (by simp))) cap (fun o ho => by rw [List.mem_singleton.1 ho]; exact ⟨by show (0 : Int) ≤ 6; decide, by show (6 : Int) < 4294967296; decide⟩) (fun o ho => by rw [List.mem_singleton.1 ho]; exact ⟨by show (toB pF).size ≤ 100000; decide, by show (0 : Nat) ≤ 100000; decide⟩) (fun x hx => by rw [List.mem_singleton.1 hx]; show 0 ≤ 100000; omega) (fun o ho => by rw [List.mem_singleton.1 ho]; exact .inr (.inr rfl)) (by show 0 < 1; decide) (by rw [hB]; show 1 + 1 ≤ 100000; decide) (by rw [hX, hE]) (by rw [hrec, hlen]; omega) (by rw [hrec, hlen]; show X.used + 1 ≤ _; omega) (by omega) (by
      rw [hX, hE, loose_u]
      intro i hi
      rw [List.mem_singleton.1 hi]; exact hheld)
  refine this.mono fun e w' hd2 => ?_
  obtain ⟨e1, D', k⟩ := hd2
  refine ⟨e1, D', ?_⟩
  unfold doneX at k
  rw [hrec, hlen, hX, hE, hB, hst] at k
  exact k
/-- /g comes, and is renamed over /f, which is held. -/
theorem vdo_2 (h : VolIn w0 S R L v X T w) (hm : Mx w0) {a : Option Addr} {A B : List Int} {cp cap : Nat} (hb : (b, .cells #[.int .i64 2, .string (toB pGg), .string ⟨#[]⟩, .slice a B.length cp, .int .i64 5, .string (toB pGg), .string (toB pF), .slice none 0 0] 55) ∈ S) (hd : Byo w0 S [] L (.slice a B.length cp) B) {q : Int} (hX : X.E = EV1 q A) (hB1 : X.B = 1) (hh : X.used + roomM (B.length + 39) ≤ X.h) (hst : X.st = 103) (hA : A.length ≤ 1000) (hB : B.length ≤ 1000) (hq : 2000 ≤ q) (hheld : 0 < heldN X.held 2) :
    Calls Tryz.prog 16 #[.pointer (some ⟨v, 0, none⟩), .slice (some ⟨b, 0, none⟩) 2 cap] w fun e w' => e = .returned (.int .i64 0) ∧ ∃ D', VolTo w0 S L v X T w.heap.size { X with E := EV2 q A B, B := 3, D := D', used := X.used + roomM (B.length + 39), recs := X.recs ++ [recB2 [oB B, oR]], st := 203 } w' := by
  have hE := do_2 q A B hA hB hq
  have hrec : recO (pks [⟨2, toB pGg, ⟨#[]⟩, a, B.length, cp⟩, ⟨5, toB pGg, toB pF, none, 0, 0⟩] [⟨2, pGg, [], B⟩, ⟨5, pGg, pF, []⟩]) = recB2 [oB B, oR] := by
    show 111 :: packsD _ = 111 :: packsB _
    rw [packsD_B]; rfl
  have hlen : (recB2 [oB B, oR]).length = B.length + 39 := by show (packsB [oB B, oR]).length + 1 = _; rw [len_B]
  have hmem : ∀ o ∈ ([⟨2, toB pGg, ⟨#[]⟩, a, B.length, cp⟩, ⟨5, toB pGg, toB pF, none, 0, 0⟩] : List OpD), o = ⟨2, toB pGg, ⟨#[]⟩, a, B.length, cp⟩ ∨ o = ⟨5, toB pGg, toB pF, none, 0, 0⟩ := fun o ho => by simpa using ho
  have := vdo_yes h hm (ops := [⟨2, toB pGg, ⟨#[]⟩, a, B.length, cp⟩, ⟨5, toB pGg, toB pF, none, 0, 0⟩]) (xs := [⟨2, pGg, [], B⟩, ⟨5, pGg, pF, []⟩]) (Ops.lit (b := b) hb rfl rfl (fun i hi => by
    match i, hi with
    | 0, _ => exact op_bytesV 2 (toB pGg) ⟨#[]⟩ (by decide) (by decide) rfl hd
    | 1, _ => exact op_noneV 5 (toB pGg) (toB pF) (by decide) (by decide)
    | n + 2, h => exact absurd h (by simp))) cap (fun o ho => by
      rcases hmem o ho with rfl | rfl
      · exact ⟨by show (0 : Int) ≤ 2; decide, by show (2 : Int) < 4294967296; decide⟩
      · exact ⟨by show (0 : Int) ≤ 5; decide, by show (5 : Int) < 4294967296; decide⟩) (fun o ho => by
      rcases hmem o ho with rfl | rfl
      · exact ⟨by show (toB pGg).size ≤ 100000; decide, by show (0 : Nat) ≤ 100000; decide⟩
      · exact ⟨by show (toB pGg).size ≤ 100000; decide, by show (toB pF).size ≤ 100000; decide⟩) (fun x hx => by
      have hx2 : x = ⟨2, pGg, [], B⟩ ∨ x = ⟨5, pGg, pF, []⟩ := by simpa using hx
      rcases hx2 with rfl | rfl
      · show B.length ≤ 100000; omega
      · show 0 ≤ 100000; omega) (fun o ho => by
      rcases hmem o ho with rfl | rfl
      · exact .inr (.inr rfl)
      · exact .inr (.inl rfl)) (by show 0 < 2; decide) (by rw [hB1]; show 1 + 2 ≤ 100000; decide) (by rw [hX, hE]) (by rw [hrec, hlen]; omega) (by rw [hrec, hlen]; exact hh) (by omega) (by
      rw [hX, hE, loose_2]
      intro i hi
      rw [List.mem_singleton.1 hi]; exact hheld)
  refine this.mono fun e w' hd2 => ?_
  obtain ⟨e1, D', k⟩ := hd2
  refine ⟨e1, D', ?_⟩
  unfold doneX at k
  rw [hrec, hlen, hX, hE, hB1, hst] at k
  exact k
end
def one7 : List Int := [111, 110, 101]
theorem one7_byts : Byts one7 := by unfold one7 Byts; decide
abbrev lit7 : Obj := .cells #[.int .u8 111, .int .u8 110, .int .u8 101] 5 (3, 4)
set_option maxHeartbeats 8000000 in
theorem vol_alive (w : World) (hm : Mx w) : Calls Tryz.prog 10 #[] w fun e w' => e = .returned (.bool true) ∧ Below w.heap.size w w' := by
  have hnew := new_pos w w [] 100 (Own.start w) (by decide) (by decide)
  go_enter Tryz.func10, Tryz.ntmps10
  go_wp2_with fail
  refine hnew.mono ?_
  rintro e w1 ⟨d, rfl, hA1⟩
  have hop := vopen_new (w0 := w) (S := []) (L := []) hA1 (by decide) (by decide) 1000 (by decide)
  clear hnew hA1
  go_wp2_with fail
  refine hop.mono ?_
  rintro e w2 ⟨v, t, l, hmb, D, S1, R1, T1, rfl, h1, _, _⟩
  have c0 : w2.cell? ⟨v, 0, none⟩ = some (.pointer (some ⟨t, 0, none⟩)) := h1.atV.1.1
  have hO3 := (h1.own.newB lit7).newB (.cells #[.int .i64 2, .string (toB pF), .string ⟨#[]⟩, .slice (some ⟨w2.heap.size, 0, none⟩) 3 3] 55)
  rw [show (w2.alloc lit7).heap.size = w2.heap.size + 1 by simp] at hO3
  have h3 := h1.base hO3 (fun b x hx _ => List.mem_cons_of_mem _ (List.mem_cons_of_mem _ hx))
  have hdo := vdo_1 h3 hm (A := one7) (cp := 3) (cap := 1) (b := w2.heap.size + 1) (List.mem_cons_self ..) (.inr (.inr ⟨w2.heap.size, _, _, _, List.mem_cons_of_mem _ (List.mem_cons_self ..), (by simp), rfl, rfl, one7_byts, by decide⟩)) (q := 1000) rfl rfl rfl (by show 49 ≤ (100 - 2) / 2; decide) rfl (by decide) (by decide)
  have hcs := conv_constL w2 #[.int .u8 111, .int .u8 110, .int .u8 101] 3 3
  clear hop h1 hO3 h3
  go_wp2_with fail
  refine hdo.mono ?_
  rintro e w3 ⟨rfl, D3, S3, R3, L3, T3, h4, _, _, _, _, _⟩
  have hhd := hold_yes h4 hm (toB pF) (by decide) (i := 2) (find_1 1000 one7) (dir_1 1000 one7) (m := 0) rfl (by decide)
  clear hdo hcs c0 h4
  go_wp2_with fail
  refine hhd.mono ?_
  rintro e w4 ⟨rfl, S4, R4, L4, T4, h5, _, _, _, _, _⟩
  have hO6 := h5.own.newB (.cells #[.int .i64 6, .string (toB pF), .string ⟨#[]⟩, .slice none 0 0] 55)
  have h6 := h5.base hO6 (fun b x hx _ => List.mem_cons_of_mem _ hx)
  have hdu := vdo_u h6 hm (A := one7) (cap := 1) (b := w4.heap.size) (List.mem_cons_self ..) (q := 1000) rfl rfl (by show roomM (3 + 19) + 2 ≤ (100 - 2) / 2; decide) rfl (by decide) (by decide) (by show 0 < heldN (put [] 2 (0 + 1)) 2; decide)
  clear hhd h5 hO6 h6
  go_wp2_with fail
  refine hdu.mono ?_
  rintro e w5 ⟨rfl, D5, S5, R5, L5, T5, h7, _, _, _, _, _⟩
  have c0 : w5.cell? ⟨v, 0, none⟩ = some (.pointer (some ⟨t, 0, none⟩)) := h7.atV.1.1
  have hlo : Calls Tryz.prog 21 #[.pointer (some ⟨t, 0, none⟩)] w5 _ := h7.loose (by show 2 ≤ 1000000; decide)
  clear hdu h7
  go_wp2_with fail
  refine hlo.mono ?_
  rintro e w6 ⟨sv, zs, rfl, hp, hO8, h8⟩
  have hz2 : zs = [2] := List.perm_singleton.1 hp
  subst hz2
  obtain ⟨sa, sc, rfl, _, _⟩ := Own.sized (h := (show Own _ w6 (⟨3, 1, sv, 1, [.int .i64 2]⟩ :: (R5 ++ L5)) from hO8))
  have hle := let_last h8 2 (by show heldN (put [] 2 (0 + 1)) 2 = 1; decide)
  clear hlo c0 hp hO8 h8
  go_wp2_with fail
  refine hle.mono ?_
  rintro e w7 ⟨rfl, S7, R7, L7, T7, h9, _, _, _, _, _⟩
  have c0 : w7.cell? ⟨v, 0, none⟩ = some (.pointer (some ⟨t, 0, none⟩)) := h9.atV.1.1
  have hlo : Calls Tryz.prog 21 #[.pointer (some ⟨t, 0, none⟩)] w7 _ := h9.loose (by show 2 ≤ 1000000; decide)
  clear hle h9
  go_wp2_with (first
    | (go_at_call 21; refine hlo.mono ?_; rintro e w8 ⟨sv2, zs2, rfl, hp2, hO10, h10⟩; have hz3 : zs2 = [] := List.perm_nil.1 hp2; subst hz3; obtain ⟨sa2, sc2, rfl, _, _⟩ := Own.sized (h := (show Own _ w8 (⟨3, 1, sv2, 0, []⟩ :: (R7 ++ L7)) from hO10)); have hh10 := held_any h10 2; have H10 := Lib.hid h10; clear hp2 hO10 h10)
    | (go_at_call 20; refine hh10.mono ?_; rintro e w9 ⟨rfl, rfl⟩; have hd10 := dead_any H10.out)
    | (go_at_call 43; refine hd10.mono ?_; rintro e w10 ⟨rfl, h11, _⟩; have HB := Lib.hid h11.below; clear h11))
  go_ret
  exact ⟨rfl, HB.out⟩
end Go.Proofs.YtokbkgckpakdgaaGreatDoor
end

/- VolHolds: its walk. -/
section
namespace Go.Proofs.YtokbkgckpakdgaaGreatDoor
open Go.RowKit
open Go.ChangeMaps (setBlock)
set_option linter.unusedVariables false
set_option linter.unusedSimpArgs false
set_option maxRecDepth 100000

theorem and_mask7 (q : Int) : ∃ m : Nat, bits .and .i64 q 7 = (m : Int) ∧ m ≤ 7 := by
  refine ⟨((BitVec.ofInt 64 q) &&& BitVec.ofInt 64 ((7 : Nat) : Int)).toNat, ?_, ?_⟩
  · show IntKind.i64.wrap ((BitVec.ofInt 64 q &&& BitVec.ofInt 64 ((7 : Nat) : Int)).toNat : Int) = _
    have h : ((BitVec.ofInt 64 q) &&& BitVec.ofInt 64 ((7 : Nat) : Int)).toNat ≤ 7 := by
      rw [BitVec.toNat_and, BitVec.ofInt_natCast, BitVec.toNat_ofNat, Nat.mod_eq_of_lt (by omega)]; exact Nat.and_le_right
    exact IntWalk.i64_in _ (by omega)
  · rw [BitVec.toNat_and, BitVec.ofInt_natCast, BitVec.toNat_ofNat, Nat.mod_eq_of_lt (by omega)]; exact Nat.and_le_right
/-- How often the law's file is held. -/
def Hk (k : Nat) : List (Int × Int) := if k = 0 then [] else [(2, (k : Int))]
theorem Hk_n (k : Nat) : heldN (Hk k) 2 = k := by
  unfold Hk heldN
  split
  · rename_i h; rw [h]; rfl
  · rfl
theorem Hk_put (k j : Nat) (hj : j ≠ 0) : put (Hk k) 2 (j : Int) = Hk j := by
  have e : Hk j = [(2, (j : Int))] := by unfold Hk; rw [if_neg hj]
  rw [e]
  unfold Hk
  split <;> rfl
section
variable {w0 w w' : World} {S S' S1 : Blocks} {R L L' L1 M : List Rw} {v c n d t b : Nat} {X : VX} {T T' Tc T1 : Tr} {K : Blocks} {sv : Value} {zs : List Int} {E : Et}
theorem VolIn.used (h : VolIn w0 S R L v X T w) (hu : sumE X.E.nodes ≤ 1000000000) : Calls Tryz.prog 19 #[.pointer (some ⟨X.t, 0, none⟩)] w fun e w' => e = .returned (.int .i64 (sumE X.E.nodes : Nat)) ∧ VolIn w0 S R L v X T w' := by
  have := used_any h.treeW (by rw [h.rep.sum]; exact hu)
  rw [h.rep.sum] at this
  exact this.mono fun e w' hd => ⟨hd.1, h.later hd.2⟩
end
theorem sum_2 (q : Int) (A B : List Int) : sumE (EV2 q A B).nodes = A.length + B.length := by
  show (([0, A.length, B.length] : List Nat).sum : Nat) = _
  simp
theorem sum_3 (q : Int) (B : List Int) : sumE (EV3 q B).nodes = B.length := by
  show (([0, B.length] : List Nat).sum : Nat) = _
  simp
def InAt (w : World) (v : Nat) (X : VX) (wr : World) : Prop := ∃ S R L T, VolIn w S R L v X T wr
theorem InAt.to {w w' : World} {S : Blocks} {L : List Rw} {v n : Nat} {X X' : VX} {T : Tr} (k : VolTo w S L v X T n X' w') : InAt w v X' w' := by
  obtain ⟨S', R', L', T', h, _⟩ := k
  exact ⟨_, _, _, _, h⟩
theorem InAt.used {w wr : World} {v U : Nat} {X : VX} (h : InAt w v X wr) (hs : sumE X.E.nodes = U) (hU : U ≤ 1000000000) : wr.cell? ⟨v, 0, none⟩ = some (.pointer (some ⟨X.t, 0, none⟩)) ∧ Calls Tryz.prog 19 #[.pointer (some ⟨X.t, 0, none⟩)] wr fun e w' => e = .returned (.int .i64 (U : Int)) ∧ InAt w v X w' := by
  obtain ⟨S, R, L, T, h1⟩ := h
  refine ⟨h1.atV.1.1, (h1.used (by rw [hs]; exact hU)).mono fun e w' hd => ⟨by rw [hd.1, hs], _, _, _, _, hd.2⟩⟩
theorem InAt.below {w wr : World} {v : Nat} {X : VX} (h : InAt w v X wr) : Below w.heap.size w wr := by
  obtain ⟨S, R, L, T, h1⟩ := h
  exact h1.below
/-- A volume of which nothing is held, and no file is loose. -/
def Calm (w : World) (u ut : Nat) (w' : World) : Prop := ∃ S R L T X, VolIn w S R L u X T w' ∧ X.t = ut ∧ looseE X.E.nodes = [] ∧ X.B ≤ 1000000 ∧ X.held = []
theorem Calm.loose {w w' : World} {u ut : Nat} (h : Calm w u ut w') : w'.cell? ⟨u, 0, none⟩ = some (.pointer (some ⟨ut, 0, none⟩)) ∧ Calls Tryz.prog 21 #[.pointer (some ⟨ut, 0, none⟩)] w' fun e w2 => ∃ a c, e = .returned (.slice a 0 c) ∧ Calm w u ut w2 := by
  obtain ⟨S, R, L, T, X, h1, rfl, h2, h3, h4⟩ := h
  refine ⟨h1.atV.1.1, (h1.loose h3).mono fun e w2 hd => ?_⟩
  obtain ⟨sv, zs, e1, hp, hO, h5⟩ := hd
  rw [h2] at hp
  have hz := List.perm_nil.1 hp
  subst hz
  obtain ⟨a, c, e2, _, _⟩ := Own.sized (h := (show Own _ w2 (⟨3, 1, sv, 0, []⟩ :: (R ++ L)) from hO))
  exact ⟨a, c, by rw [e1, e2], S, R, L, T, X, h5, rfl, h2, h3, h4⟩
theorem Calm.held {w w' : World} {u ut : Nat} (h : Calm w u ut w') (i : Int) : Calls Tryz.prog 20 #[.pointer (some ⟨u, 0, none⟩), .int .i64 i] w' fun e w2 => e = .returned (.int .i64 0) ∧ w' = w2 := by
  obtain ⟨S, R, L, T, X, h1, rfl, h2, h3, h4⟩ := h
  have := held_any h1 i
  rw [h4] at this
  exact this
theorem Calm.below {w w' : World} {u ut : Nat} (h : Calm w u ut w') : Below w.heap.size w w' := by
  obtain ⟨S, R, L, T, X, h1, _⟩ := h
  exact h1.below
set_option maxHeartbeats 16000000 in
theorem holds_main (w : World) (hm : Mx w) {a0 a1 : Option Addr} {c0 c1 : Nat} {A B : List Int} (ha : By w (.slice a0 A.length c0) A) (hb : By w (.slice a1 B.length c1) B) (times : Int) (boot : Bool) (hA : A.length ≤ 1000) (hB : B.length ≤ 1000) :
    Calls Tryz.prog 4 #[.slice a0 A.length c0, .slice a1 B.length c1, .int .i64 times, .bool boot] w fun e w' => e = .returned (.bool true) ∧ Below w.heap.size w w' := by
  have hal := vol_alive w hm
  have hAz := ha.2.1
  have hBz := hb.2.1
  have Ha := Lib.hid ha
  have Hb := Lib.hid hb
  have Haz := Lib.hid hAz
  have Hbz := Lib.hid hBz
  obtain ⟨m, hmk, hm7⟩ := and_mask7 times
  clear ha hb hAz hBz
  have hA63 : ((A.length : Nat) : Int) ≤ 1000 := by exact_mod_cast hA
  have hB63 : ((B.length : Nat) : Int) ≤ 1000 := by exact_mod_cast hB
  go_enter Tryz.func4, Tryz.ntmps4
  go_wp2_with fail
  refine hal.mono ?_
  rintro e wa ⟨rfl, hba⟩
  have hnew := new_pos w wa [] 600 (Own.of_below hba) (by decide) (by decide)
  clear hal hba
  go_wp2_with fail
  refine hnew.mono ?_
  rintro e w1 ⟨d, rfl, hA1⟩
  have hop := vopen_new (w0 := w) (S := []) (L := []) hA1 (by decide) (by decide) 5000 (by decide)
  clear hnew hA1
  go_wp2_with fail
  refine hop.mono ?_
  rintro e w2 ⟨v, t, l, hmb, D, S1, R1, T1, rfl, h1, _, _⟩
  have h3 := h1.base (h1.own.newB (.cells #[.int .i64 2, .string (toB pF), .string ⟨#[]⟩, .slice a0 A.length c0] 55)) (fun b x hx _ => List.mem_cons_of_mem _ hx)
  have hdo := vdo_1 h3 hm (A := A) (cp := c0) (cap := 1) (b := w2.heap.size) (List.mem_cons_self ..) (.inr (.inl Ha.out)) (q := 5000) rfl rfl rfl (by show 49 ≤ (600 - 2) / 2; decide) rfl hA (by decide)
  clear hop h1 h3
  go_wp2_with (go_at_call 16; refine hdo.mono ?_; rintro e w3 ⟨rfl, D3, S3, R3, L3, T3, h4, _, _, _, _, _⟩; have H4 := Lib.hid h4; clear h4)
  obtain ⟨X, hX⟩ : ∃ X : VX, X = { newX t d l hmb 5000 D 600 with E := EV1 5000 A, B := 1, D := D3, used := roomM (A.length + 19), recs := [] ++ [recB2 [oA A]], st := 103 } := ⟨_, rfl⟩
  have h4 := H4.out
  change VolIn w S3 R3 L3 v { newX t d l hmb 5000 D 600 with E := EV1 5000 A, B := 1, D := D3, used := roomM (A.length + 19), recs := [] ++ [recB2 [oA A]], st := 103 } T3 w3 at h4
  rw [← hX] at h4
  have HX := Lib.hid hX
  have HI0 := Lib.hid (show InAt w v { X with held := Hk 0 } w3 from ⟨_, _, _, _, by
    have e : ({ X with held := Hk 0 } : VX) = X := by rw [hX]; rfl
    rw [e]; exact h4⟩)
  have hm0 : (0 : Int) ≤ (m : Int) := by omega
  clear hdo H4 hX h4
  go_wp2_with fail
  go_loopw [11, 12, 50] (fun ev iv kv wr => ∃ k : Nat, k ≤ m + 1 ∧ ev = .int .i64 0 ∧ iv = .int .i64 (if k = 0 then 0 else 2) ∧ kv = .int .i64 k ∧ InAt w v { X with held := Hk k } wr) (fun _ _ kv _ => (m + 1) - (intOf kv).toNat)
  case atStart => exact ⟨0, Nat.zero_le _, rfl, rfl, rfl, HI0.out⟩
  case round =>
    obtain ⟨k, hk, rfl, rfl, rfl, S4, R4, L4, T4, h4⟩ := hrel
    by_cases hkm : k < m + 1
    · have hhd := hold_yes h4 hm (toB pF) (by decide) (i := 2) (by show findX X.E pF = some 2; rw [HX.out]; exact find_1 5000 A) (by show dirX X.E pF = false; rw [HX.out]; exact dir_1 5000 A) (m := (k : Int)) (Hk_n k) (by omega)
      have hput : put (Hk k) 2 ((k : Int) + 1) = Hk (k + 1) := by
        have := Hk_put k (k + 1) (by omega)
        rw [← this]; rfl
      have Hgo := Lib.hid (fun w5 (k2 : VolTo w S4 L4 v { X with held := Hk k } T4 wr.heap.size { X with held := put (Hk k) 2 ((k : Int) + 1) } w5) => (show InAt w v { X with held := Hk (k + 1) } w5 from by
        rw [hput] at k2; exact InAt.to k2))
      have hb63 : (k : Int) < 1 + (m : Int) := by omega
      clear h4 hput HI0
      generalize (if k = 0 then (0 : Int) else 2) = idv
      go_wp2_with fail
      refine hhd.mono ?_
      rintro e w5 ⟨rfl, h5⟩
      have HG := Lib.hid (Hgo.out w5 h5)
      clear hhd h5 Hgo
      go_wp2_with fail
      go_roundw
      case rel => exact ⟨k + 1, by omega, rfl, by rw [if_neg (by omega)], by go_num, HG.out⟩
      case measure => (simp [intOf]) <;> omega
    · have hke : k = m + 1 := by omega
      subst hke
      have hb63 : ¬ (((m + 1 : Nat) : Int) < 1 + (m : Int)) := by omega
      rw [if_neg (show ¬ m + 1 = 0 by omega)]
      have hEX : X.E = EV1 5000 A := by rw [HX.out]
      have h5 := h4.base (h4.own.newB (.cells #[.int .i64 2, .string (toB pGg), .string ⟨#[]⟩, .slice a1 B.length c1, .int .i64 5, .string (toB pGg), .string (toB pF), .slice none 0 0] 55)) (fun b x hx _ => List.mem_cons_of_mem _ hx)
      have hdo := vdo_2 h5 hm (A := A) (B := B) (cp := c1) (cap := 2) (b := wr.heap.size) (List.mem_cons_self ..) (.inr (.inl Hb.out)) (q := 5000) hEX (by show X.B = 1; rw [HX.out]) (by
        show X.used + roomM (B.length + 39) ≤ X.h
        rw [HX.out]
        show roomM (A.length + 19) + roomM (B.length + 39) ≤ (600 - 2) / 2
        unfold roomM; omega) (by show X.st = 103; rw [HX.out]) hA hB (by decide) (by show 0 < heldN (Hk (m + 1)) 2; rw [Hk_n]; omega)
      have Hrec := Lib.hid (show X.recs ++ [recB2 [oB B, oR]] = (lsH A B).map recB2 by rw [HX.out]; rfl)
      have hXd : X.d = d := by rw [HX.out]; rfl
      have HXd := Lib.hid hXd
      have hheld : heldN (Hk (m + 1)) 2 = 1 + (m : Int) := by rw [Hk_n]; omega
      have Hheld := Lib.hid hheld
      clear hEX h4 h5 HI0 hXd hheld hb63 hk
      have hb63 : ¬ (((m + 1 : Nat) : Int) < 1 + (m : Int)) := by omega
      cases boot with
      | true =>
        go_wp2_with (first
          | (go_at_call 16; refine hdo.mono ?_; rintro e w5 ⟨rfl, D5, S6, R6, L6, T6, h6, _, _, _, _, _⟩; have c0 : w5.cell? ⟨v, 0, none⟩ = some (.pointer (some ⟨X.t, 0, none⟩)) := h6.atV.1.1; have hus : Calls Tryz.prog 19 #[.pointer (some ⟨X.t, 0, none⟩)] w5 _ := h6.used (by show sumE (EV2 5000 A B).nodes ≤ _; rw [sum_2]; omega); rw [show sumE (EV2 5000 A B).nodes = A.length + B.length from sum_2 5000 A B, Int.natCast_add] at hus; clear h6)
          | (go_at_call 19; refine hus.mono ?_; rintro e w6 ⟨rfl, h7⟩; have hhe := held_any h7 2; rw [show heldN ({ X with held := Hk (m + 1), E := EV2 5000 A B, B := 3, D := D5, used := X.used + roomM (B.length + 39), recs := X.recs ++ [recB2 [oB B, oR]], st := 203 } : VX).held 2 = 1 + (m : Int) from Hheld.out] at hhe; have H7 := Lib.hid h7; clear h7)
          | (go_at_call 20; refine hhe.mono ?_; rintro e w' ⟨rfl, rfl⟩))
        obtain ⟨L9, hdk⟩ := H7.out.lg.disk
        have hdk2 : DkAt ⟨w, S6⟩ w6 X.d D5 L9 := hdk
        rw [HXd.out] at hdk2
        have hop2 := vopen_live (d := d) hdk2 H7.out.live H7.out.left hm 5000 (by decide) (redos_H Haz.out Hbz.out hA hB) (by show 0 < 2; decide) Hrec.out
        clear hhe hdk hdk2 c0 hus
        refine hop2.mono ?_
        rintro e w7 ⟨u, ut, ul, uh, SU, RU, LU, TU, rfl, hu, _, _⟩
        have c0 : w7.cell? ⟨u, 0, none⟩ = some (.pointer (some ⟨ut, 0, none⟩)) := hu.atV.1.1
        have hus2 := (hu.used (by show sumE (EV3 5000 B).nodes ≤ _; rw [sum_3]; omega)).mono (R' := fun e w' => e = .returned (.int .i64 ((B.length : Nat) : Int)) ∧ Calm w u ut w') fun e w' hd => ⟨by
          rw [hd.1]
          show Ending.returned (.int .i64 ((sumE (EV3 5000 B).nodes : Nat) : Int)) = _
          rw [sum_3], SU, RU, LU, TU, _, hd.2, rfl, loose_3 5000 B, by show 100 * 2 ≤ 1000000; decide, rfl⟩
        change Calls Tryz.prog 19 #[.pointer (some ⟨ut, 0, none⟩)] w7 _ at hus2
        clear hop2 hu H7
        go_wp2_with (first
          | (go_at_call 19; refine hus2.mono ?_; rintro e w8 ⟨rfl, h8⟩; obtain ⟨d0, hlo⟩ := h8.loose; clear h8)
          | (go_at_call 21; refine hlo.mono ?_; rintro e w9 ⟨sa, sc, rfl, h9⟩; have hh9 := h9.held 2; have HB := Lib.hid h9.below; clear h9)
          | (go_at_call 20; refine hh9.mono ?_; rintro e w' ⟨rfl, rfl⟩))
        go_ret
        exact ⟨rfl, HB.out⟩
      | false =>
        go_wp2_with (first
          | (go_at_call 16; refine hdo.mono ?_; rintro e w5 ⟨rfl, D5, S6, R6, L6, T6, h6, _, _, _, _, _⟩; have c0 : w5.cell? ⟨v, 0, none⟩ = some (.pointer (some ⟨X.t, 0, none⟩)) := h6.atV.1.1; have hus : Calls Tryz.prog 19 #[.pointer (some ⟨X.t, 0, none⟩)] w5 _ := h6.used (by show sumE (EV2 5000 A B).nodes ≤ _; rw [sum_2]; omega); rw [show sumE (EV2 5000 A B).nodes = A.length + B.length from sum_2 5000 A B, Int.natCast_add] at hus; clear h6)
          | (go_at_call 19; refine hus.mono ?_; rintro e w6 ⟨rfl, h7⟩; have hhe := held_any h7 2; rw [show heldN ({ X with held := Hk (m + 1), E := EV2 5000 A B, B := 3, D := D5, used := X.used + roomM (B.length + 39), recs := X.recs ++ [recB2 [oB B, oR]], st := 203 } : VX).held 2 = 1 + (m : Int) from Hheld.out] at hhe; have H7 := Lib.hid h7; clear h7)
          | (go_at_call 20; refine hhe.mono ?_; rintro e w' ⟨rfl, rfl⟩))
        obtain ⟨Y, hY⟩ : ∃ Y : VX, Y = { X with held := Hk (m + 1), E := EV2 5000 A B, B := 3, D := D5, used := X.used + roomM (B.length + 39), recs := X.recs ++ [recB2 [oB B, oR]], st := 203 } := ⟨_, rfl⟩
        have hYt : Y.t = X.t := by rw [hY]
        have HR0 := Lib.hid (show InAt w v { Y with held := Hk (m + 1 - 0), E := EV2 5000 A B } w6 from ⟨_, _, _, _, by
          have e : ({ Y with held := Hk (m + 1 - 0), E := EV2 5000 A B } : VX) = { X with held := Hk (m + 1), E := EV2 5000 A B, B := 3, D := D5, used := X.used + roomM (B.length + 39), recs := X.recs ++ [recB2 [oB B, oR]], st := 203 } := by rw [hY]; rfl
          rw [e]; exact H7.out⟩)
        have HYt := Lib.hid hYt
        have HYB := Lib.hid (show Y.B = 3 by rw [hY])
        clear H7 hY hYt hhe c0 hus
        go_loopw [125] (fun kv wr => ∃ k : Nat, k ≤ m + 1 ∧ kv = .int .i64 k ∧ InAt w v { Y with held := Hk (m + 1 - k), E := if k = m + 1 then EV3 5000 B else EV2 5000 A B } wr) (fun kv _ => (m + 1) - (intOf kv).toNat)
        case atStart => exact ⟨0, Nat.zero_le _, rfl, by rw [if_neg (by omega)]; exact HR0.out⟩
        case round =>
          obtain ⟨k, hk, rfl, S8, R8, L8, T8, h8⟩ := hrel
          by_cases hkm : k < m + 1
          · rw [if_neg (by omega)] at h8
            have hb64 : (k : Int) < 1 + (m : Int) := by omega
            by_cases hkl : k = m
            · subst hkl
              have e1 : k + 1 - k = 1 := by omega
              rw [e1] at h8
              have hlt := (let_last h8 2 (by show heldN (Hk 1) 2 = 1; rfl)).mono (R' := fun e w' => e = .returned (.int .i64 0) ∧ InAt w v { Y with held := Hk (k + 1 - (k + 1)), E := EV3 5000 B } w') fun e w' hd => ⟨hd.1, by
                rw [Nat.sub_self]
                exact InAt.to hd.2⟩
              have hus3 := Lib.hid (fun w9 (h9 : InAt w v { Y with held := Hk (k + 1 - (k + 1)), E := EV3 5000 B } w9) => h9.used (U := B.length) (sum_3 5000 B) (by omega))
              have q144 : ((k : Int) == 1 + (k : Int) - 1) = true := by simp; omega
              clear h8 HR0
              go_wp2_with (first
                | (go_at_call 22; refine hlt.mono ?_; rintro e w9 ⟨rfl, h9⟩; obtain ⟨d0, hu9⟩ := hus3.out w9 h9; clear h9)
                | (go_at_call 19; refine hu9.mono ?_; rintro e w10 ⟨rfl, h10⟩; have HG := Lib.hid h10; clear h10))
              go_roundw
              case rel => exact ⟨k + 1, by omega, by go_num, by rw [if_pos rfl]; exact HG.out⟩
              case measure => (simp [intOf]) <;> omega
            · have hput : put (Hk (m + 1 - k)) 2 (((m + 1 - k : Nat) : Int) - 1) = Hk (m + 1 - (k + 1)) := by
                have := Hk_put (m + 1 - k) (m + 1 - (k + 1)) (by omega)
                rw [← this]
                congr 1
                omega
              have hlt := (let_more h8 2 (m := ((m + 1 - k : Nat) : Int)) (Hk_n _) (by omega) (by omega)).mono (R' := fun e w' => e = .returned (.int .i64 0) ∧ InAt w v { Y with held := Hk (m + 1 - (k + 1)), E := EV2 5000 A B } w') fun e w' hd => ⟨hd.1, by
                rw [← hput]
                exact InAt.to hd.2⟩
              have hus3 := Lib.hid (fun w9 (h9 : InAt w v { Y with held := Hk (m + 1 - (k + 1)), E := EV2 5000 A B } w9) => h9.used (U := A.length + B.length) (sum_2 5000 A B) (by omega))
              have q144 : ((k : Int) == 1 + (m : Int) - 1) = false := by simp; omega
              clear h8 HR0 hput
              by_cases hA0 : A.length = 0
              · have hus4 := Lib.hid (fun w9 (h9 : InAt w v { Y with held := Hk (m + 1 - (k + 1)), E := EV2 5000 A B } w9) => h9.used (U := B.length) (by show sumE (EV2 5000 A B).nodes = _; rw [sum_2, hA0, Nat.zero_add]) (by omega))
                have q149 : ¬ 0 < A.length := by omega
                have q150 : ¬ (0 : Int) < (A.length : Int) := by omega
                clear hA0
                go_wp2_with (first
                  | (go_at_call 22; refine hlt.mono ?_; rintro e w9 ⟨rfl, h9⟩; obtain ⟨d0, hu9⟩ := hus4.out w9 h9; clear h9)
                  | (go_at_call 19; refine hu9.mono ?_; rintro e w10 ⟨rfl, h10⟩; have HG := Lib.hid h10; clear h10))
                go_roundw
                case rel => exact ⟨k + 1, by omega, by go_num, by rw [if_neg (by omega)]; exact HG.out⟩
                case measure => (simp [intOf]) <;> omega
              · have q140 : (((A.length + B.length : Nat) : Int) == ((B.length : Nat) : Int)) = false := by simp; omega
                go_wp2_with (first
                  | (go_at_call 22; refine hlt.mono ?_; rintro e w9 ⟨rfl, h9⟩; obtain ⟨d0, hu9⟩ := hus3.out w9 h9; clear h9)
                  | (go_at_call 19; refine hu9.mono ?_; rintro e w10 ⟨rfl, h10⟩; have HG := Lib.hid h10; clear h10))
                go_roundw
                case rel => exact ⟨k + 1, by omega, by go_num, by rw [if_neg (by omega)]; exact HG.out⟩
                case measure => (simp [intOf]) <;> omega
          · have hke : k = m + 1 := by omega
            subst hke
            rw [if_pos rfl, Nat.sub_self] at h8
            have hln := let_none h8 2 (by show heldN (Hk 0) 2 = 0; rfl)
            obtain ⟨d0, hu9⟩ := (show InAt w v { Y with held := Hk 0, E := EV3 5000 B } wr from ⟨_, _, _, _, h8⟩).used (U := B.length) (sum_3 5000 B) (by omega)
            have hb64 : ¬ (((m + 1 : Nat) : Int) < 1 + (m : Int)) := by omega
            clear h8 HR0
            go_wp2_with (first
              | (go_at_call 22; refine hln.mono ?_; rintro e w' ⟨rfl, rfl⟩)
              | (go_at_call 19; refine hu9.mono ?_; rintro e w10 ⟨rfl, h10⟩; have HB := Lib.hid h10.below; clear h10))
            go_ret
            exact ⟨rfl, HB.out⟩
end Go.Proofs.YtokbkgckpakdgaaGreatDoor
end

/- VolHolds: the law. -/
section
namespace Go.Proofs.YtokbkgckpakdgaaGreatDoor
open Go.RowKit
set_option linter.unusedVariables false
set_option linter.unusedSimpArgs false
set_option maxRecDepth 100000

theorem holds_long (w : World) (hm : Mx w) {a0 a1 : Option Addr} {n0 n1 c0 c1 : Nat} (times : Int) (boot : Bool) (hl : 1000 < n0 ∨ (n0 ≤ 1000 ∧ 1000 < n1)) :
    Calls Tryz.prog 4 #[.slice a0 n0 c0, .slice a1 n1 c1, .int .i64 times, .bool boot] w fun e w' => e = .returned (.bool true) ∧ Below w.heap.size w w' := by
  have hal := vol_alive w hm
  rcases hl with h1 | ⟨h1, h2⟩
  · have hb63 : (1000 : Int) < (n0 : Int) := by exact_mod_cast h1
    clear h1
    go_enter Tryz.func4, Tryz.ntmps4
    go_wp2_with fail
    refine hal.mono ?_
    rintro e wa ⟨rfl, hba⟩
    have HB := Lib.hid hba
    clear hal hba
    go_wp2_with fail
    go_ret
    exact ⟨rfl, HB.out⟩
  · have hb62 : ¬ (1000 : Int) < (n0 : Int) := by omega
    have hb63 : (1000 : Int) < (n1 : Int) := by exact_mod_cast h2
    clear h1 h2
    go_enter Tryz.func4, Tryz.ntmps4
    go_wp2_with fail
    refine hal.mono ?_
    rintro e wa ⟨rfl, hba⟩
    have HB := Lib.hid hba
    clear hal hba
    go_wp2_with fail
    go_ret
    exact ⟨rfl, HB.out⟩
theorem holds_law (w : World) (hm : Mx w) {a0 a1 : Option Addr} {n0 n1 c0 c1 : Nat} {xa xb : List Int} (ha : By w (.slice a0 n0 c0) xa) (hb : By w (.slice a1 n1 c1) xb) (times : Int) (boot : Bool) :
    Calls Tryz.prog 4 #[.slice a0 n0 c0, .slice a1 n1 c1, .int .i64 times, .bool boot] w fun e w' => e = .returned (.bool true) ∧ Below w.heap.size w w' := by
  obtain ⟨a, c, e, _⟩ := ha.2.2
  obtain ⟨a', c', e', _⟩ := hb.2.2
  have en : n0 = xa.length := by injection e
  have en' : n1 = xb.length := by injection e'
  by_cases h1 : n0 ≤ 1000
  · by_cases h2 : n1 ≤ 1000
    · subst en en'
      exact holds_main w hm ha hb times boot h1 h2
    · exact holds_long w hm times boot (.inr ⟨h1, by omega⟩)
  · exact holds_long w hm times boot (.inl (by omega))
end Go.Proofs.YtokbkgckpakdgaaGreatDoor
end

/- The world's shape gives the library's own bound. -/
section
namespace Go.Proofs.YtokbkgckpakdgaaGreatDoor
open Go.RowKit
theorem mx_of {W : World} (h : W.ShapedOpen Tryz.prog) : Mx W := by
  obtain ⟨m, hm⟩ : ∃ m, W.cell? ⟨0, 0, none⟩ = some (.int .i64 m) := cell_of_shapedOpen_int (zero := #[.int .i64 0]) (t := 3) (k := .i64) h (of_decide_eq_true (by kernel_rfl)) (by kernel_rfl) rfl (by kernel_rfl) (by kernel_rfl) (by kernel_rfl)
  exact ⟨World.block_lt_of_cell? W _ hm, m, hm⟩
end Go.Proofs.YtokbkgckpakdgaaGreatDoor
end
