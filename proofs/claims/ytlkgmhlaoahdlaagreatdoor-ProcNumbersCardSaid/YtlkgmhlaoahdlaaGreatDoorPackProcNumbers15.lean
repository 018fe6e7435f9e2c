/- Texts one behind the other, each in a section of its own: what calls make of memory, step by step. -/
import Derived.Test.YtlkgmhlaoahdlaaGreatDoorPackProcNumbers14
import Derived.Test.YtlkgmhlaoahdlaaGreatDoorRows
import Derived.Deep.Slices
import Derived.Lib.SmallJoins
import Derived.WideShapes
import Derived.ProofKit
import Derived.Deep.RegionHeld3
import Derived.Shelf.Vars

/- A volume that lies on a disk is opened again. -/
section
namespace Go.Proofs.YtlkgmhlaoahdlaaGreatDoor
open Go.RowKit
open Go.ChangeMaps (setBlock)
set_option linter.unusedVariables false
set_option linter.unusedSimpArgs false
set_option maxRecDepth 100000

section
variable {w0 w w' : World} {S S' S1 : Blocks} {R L L' L1 M : List Rw} {v c n d t : Nat} {T T' Tc T1 : Tr} {K : Blocks} {sv : Value} {zs : List Int} {E : Et} {B : Nat}
/-- Records that are operations, and the trees that they make one behind the other. -/
structure Redos (q : Int) (ls : List (List OpB)) (Es : Nat → Et) : Prop where
  first : Es 0 = E0 (max q 0)
  ok : ∀ k (h : k < ls.length), 0 < ls[k].length ∧ (∀ o ∈ ls[k], OkB o) ∧ (packsB ls[k]).length ≤ 100000 ∧ ls[k].length ≤ 100 ∧ (DoE (Es k) (ls[k].map toOpE)).1 = 0 ∧ ∀ ids : List Int, ids.Perm (looseE (DoE (Es k) (ls[k].map toOpE)).2.nodes) → reapE (DoE (Es k) (ls[k].map toOpE)).2 ids = Es (k + 1)
  many : ls.length ≤ 100
theorem Redos.inv {q : Int} {ls : List (List OpB)} {Es : Nat → Et} (h : Redos q ls Es) : ∀ k, k ≤ ls.length → Inv (Es k) (100 * k) := by
  intro k
  induction k with
  | zero => intro _; rw [h.first]; exact inv_newE _
  | succ k ih =>
    intro hk
    obtain ⟨_, _, _, h4, _, h6⟩ := h.ok k (by omega)
    have h1 := DoE_inv (ih (by omega)) (ls[k].map toOpE)
    have h2 := reapE_inv (looseE (DoE (Es k) (ls[k].map toOpE)).2.nodes) h1
    rw [h6 _ (List.Perm.refl _)] at h2
    exact h2.mono (by rw [List.length_map]; omega)
theorem Pc.form3 {u : Value} (h : Pc L u zs) : ∃ a n c, u = .slice a n c ∧ True := by
  obtain ⟨a, c, e, _⟩ := h
  exact ⟨a, _, c, e, trivial⟩
def recB2 (l : List OpB) : List Int := 111 :: packsB l
def MadeRel (w0 : World) (S : Blocks) (L : List Rw) (n t : Nat) (E : Et) (wr : World) : Prop :=
  ∃ S' L' T, Own ⟨w0, S'⟩ wr L' ∧ (∀ x ∈ L, x ∈ L') ∧ Tree S' (Pc L') t T ∧ Rep T E ∧ (∀ b x, (b, x) ∈ S → (b, x) ∈ S') ∧ (∀ b ∈ t :: T.foot, n ≤ b)
set_option maxHeartbeats 8000000 in
theorem made_live (hO : Own ⟨w0, S⟩ w L) (hm : Mx w0) (q : Int) (hq : (Lit.int .i64 q).wf = true) {ls : List (List OpB)} {Es : Nat → Et} (hr : Redos q ls Es) (hl0 : 0 < ls.length) (lv : Value) (vs : List Value) (hrow : rowV lv vs ∈ L) (hvl : vs.length = ls.length) (hvs : ∀ i (h : i < ls.length), ∃ u, vs[i]? = some u ∧ Pc L u (recB2 ls[i])) :
    Calls Tryz.prog 27 #[.int .i64 q, lv] w fun e w' => ∃ t, e = .returned (.tuple #[.pointer (some ⟨t, 0, none⟩), .bool true]) ∧ MadeRel w0 S L w.heap.size t (Es ls.length) w' := by
  have hrw := hO.only hrow
  obtain ⟨g, cp, rfl, _, _, hcp, hcm⟩ := Own.form (h := (show Own ⟨w0, S⟩ w (⟨61, 1, lv, vs.length, vs⟩ :: []) from hrw)) (by omega)
  rw [hvl]
  have hcell : ∀ w' S' L', Own ⟨w0, S'⟩ w' L' → (∀ x ∈ L, x ∈ L') → ∀ i (h : i < ls.length), ∃ u, w'.cell? ⟨g, i, none⟩ = some u ∧ Pc L' u (recB2 ls[i]) := fun w' S' L' k1 k2 i hi => by
    obtain ⟨u, h1, h2⟩ := hvs i hi
    refine ⟨u, ?_, h2.mono k2⟩
    rw [Own.cell (h := (show Own ⟨w0, S'⟩ w' (⟨61, 1, .slice (some ⟨g, 0, none⟩) vs.length cp, vs.length, vs⟩ :: []) from k1.only (k2 _ hrow))) i (by omega)]
    exact h1
  have Hcell := Lib.hid hcell
  have HO := Lib.hid hO
  have Hr := Lib.hid hr
  have hcp0 : ¬ cp = 0 := by omega
  have hcp1 : ls.length ≤ cp := by omega
  have hcm2 : cp ≤ 9223372036854775807 := by unfold maxLen at hcm; omega
  have hmany := hr.many
  have Hq := Lib.hid hq
  have Hlt := Lib.hid (show ∀ b x, (b, x) ∈ S → b < w.heap.size from fun b x hx => (hO.atLt hx).2)
  clear hO hcell hrow hvl hvs hrw hr hcp hcm hq
  obtain ⟨N, hN⟩ : ∃ N, ls.length = N := ⟨_, rfl⟩
  rw [hN] at hcp1 hl0 hmany ⊢
  have HN := Lib.hid hN
  clear hN
  go_enter Tryz.func27, Tryz.ntmps27
  go_wp2_with fail
  go_loopw [6, 17] (fun r iv wr => ∃ k : Nat, k ≤ N ∧ r = .slice none 0 0 ∧ iv = .int .i64 k ∧ Own ⟨w0, S⟩ wr L ∧ w.heap.size ≤ wr.heap.size) (fun _ iv _ => N - (intOf iv).toNat)
  case atStart => exact ⟨0, Nat.zero_le _, rfl, rfl, HO.out, Nat.le_refl _⟩
  case round =>
    obtain ⟨k, hk, rfl, rfl, hOr, hwr⟩ := hrel
    by_cases hkn : k < N
    · obtain ⟨u, hc, hu⟩ := Hcell.out wr S L hOr (fun x hx => hx) k (by rw [HN.out]; exact hkn)
      have hO1 := hOr.newB (litB 114)
      have hlit : (wr.alloc (litB 114)).heap[wr.heap.size]? = some (litB 114) := hO1.at (List.mem_cons_self ..)
      have hby := hu.by hO1
      obtain ⟨g2, o2, c2, rfl, _, _, _⟩ := hby.cells (by simp [recB2])
      have hcut := cut_no (wr.alloc (litB 114)) g2 o2 c2 wr.heap.size 111 (packsB (ls[k]'(by rw [HN.out]; exact hkn))) 114 hby hlit (by decide) (by decide) (by decide)
      have hln : (recB2 (ls[k]'(by rw [HN.out]; exact hkn))).length = (packsB (ls[k]'(by rw [HN.out]; exact hkn))).length + 1 := rfl
      rw [hln] at hc
      have hcs := conv_constL wr #[.int .u8 114] 1 1
      have HO2 := Lib.hid (show Own ⟨w0, S⟩ (wr.alloc (litB 114)) L ∧ w.heap.size ≤ (wr.alloc (litB 114)).heap.size from ⟨hOr.alloc _, by simp; omega⟩)
      generalize (packsB (ls[k]'(by rw [HN.out]; exact hkn))).length + 1 = m at *
      have hb63 : (k : Int) < (N : Int) := by exact_mod_cast hkn
      change Calls _ _ _ (wr.alloc (.cells #[.int .u8 114] 5 (1, 2))) _ at hcut
      clear hO1 hlit hby hu hln hOr hwr
      go_wp2_with fail
      refine hcut.mono ?_
      rintro e w2 ⟨rfl, hw2⟩
      have HO3 := Lib.hid (show Own ⟨w0, S⟩ w2 L ∧ w.heap.size ≤ w2.heap.size from hw2 ▸ HO2.out)
      clear hcut hcs hw2 HO2 hc
      go_wp2_with fail
      go_roundw
      case rel => exact ⟨k + 1, by omega, rfl, by go_num, HO3.out.1, HO3.out.2⟩
      case measure => simp [intOf]; omega
    · have hke : k = N := by omega
      subst hke
      have hnew := tnew_any hOr (D := Pc L) (Pc.nil L) q Hq.out
      have hb63 : ¬ ((k : Int) < (k : Int)) := Int.lt_irrefl _
      have Hwr := Lib.hid hwr
      clear hOr hwr
      go_wp2_with fail
      refine hnew.mono ?_
      rintro e w1 ⟨S1, rfl, h1, h2, h3⟩
      obtain ⟨t, ht⟩ : ∃ t, t = wr.heap.size + 3 := ⟨_, rfl⟩
      have HM := Lib.hid (show MadeRel w0 S L w.heap.size t (Es 0) w1 from ⟨S1, L, _, h1, fun _ h => h, by rw [ht]; exact h2, by rw [Hr.out.first]; exact new_rep _ q, h3, fun b hb => by
        rw [ht] at hb
        have hb2 : b ∈ ([wr.heap.size + 3, wr.heap.size, wr.heap.size + 1 + 1, wr.heap.size + 1] : List Nat) := hb
        simp at hb2
        have := Hwr.out
        omega⟩)
      rw [← ht]
      clear hnew h1 h2 h3 ht
      go_wp2_with fail
      go_loopw [12, 50] (fun r iv wr => ∃ j : Nat, j ≤ k ∧ r = .bool true ∧ iv = .int .i64 j ∧ MadeRel w0 S L w.heap.size t (Es j) wr) (fun _ iv _ => k - (intOf iv).toNat)
      case atStart => exact ⟨0, Nat.zero_le _, rfl, rfl, HM.out⟩
      case round =>
        obtain ⟨j, hj, rfl, rfl, S4, L4, T4, g1, g2, g3, g4, g5, g6⟩ := hrel
        by_cases hjn : j < k
        · obtain ⟨u, hc, hu⟩ := Hcell.out _ S4 L4 g1 g2 j (by rw [HN.out]; exact hjn)
          obtain ⟨q1, q2, q3, q4, q5, q6⟩ := Hr.out.ok j (by rw [HN.out]; exact hjn)
          have hrd := redo_any g1 g3 g4 (Hr.out.inv j (by rw [HN.out]; omega)) hm u (ls[j]'(by rw [HN.out]; exact hjn)) hu q1 q2 q3 (by omega) q5
          have Hgo := Lib.hid (fun e w5 (hd : RedoAt w0 S4 L4 t T4 wr (DoE (Es j) ((ls[j]'(by rw [HN.out]; exact hjn)).map toOpE)).2 e w5) => (show e = .returned (.bool true) ∧ MadeRel w0 S L w.heap.size t (Es (j + 1)) w5 from by
            obtain ⟨ids, hp, S5, L5, T5, k0, k1, k2, k3, k4, k5⟩ := hd
            refine ⟨k0, S5, L5, T5, k1, fun x hx => k2 x (g2 x hx), k3, by rw [← q6 ids hp]; exact k5, fun b x hb => ?_, fun b hb => ?_⟩
            · refine k4.kept b x (g5 b x hb) fun hm => ?_
              have := g6 b hm
              have := Hlt.out b x hb
              omega
            · rcases k4.fresh b hb with h7 | h7
              · exact g6 b h7
              · have := g6 t (List.mem_cons_self ..)
                have := (g1.atLt g3.at_.cells).2
                omega))
          obtain ⟨g2', o2, c2, rfl, _⟩ := hu.form3
          have hb63 : (j : Int) < (k : Int) := by exact_mod_cast hjn
          clear g1 g2 g3 g4 g5 g6 q1 q2 q3 q4 q5 q6 hu
          go_wp2_with (go_at_call 52; refine hrd.mono ?_; rintro e w5 hd; obtain ⟨rfl, hg⟩ := Hgo.out e w5 hd; have HG := Lib.hid hg; clear hd hg)
          go_roundw
          case rel => exact ⟨j + 1, by omega, rfl, by go_num, HG.out⟩
          case measure => simp [intOf]; omega
        · have hje : j = k := by omega
          subst hje
          have HP := Lib.hid (show MadeRel w0 S L w.heap.size t (Es j) wr from ⟨S4, L4, T4, g1, g2, g3, g4, g5, g6⟩)
          have hb63 : ¬ ((j : Int) < (j : Int)) := Int.lt_irrefl _
          clear g1 g2 g3 g4 g5 g6
          go_wp2_with fail
          go_ret2
          exact ⟨t, rfl, HP.out⟩
end
end Go.Proofs.YtlkgmhlaoahdlaaGreatDoor
end

/- A volume that lies on a disk is opened. -/
section
namespace Go.Proofs.YtlkgmhlaoahdlaaGreatDoor
open Go.RowKit
open Go.ChangeMaps (setBlock)
set_option linter.unusedVariables false
set_option linter.unusedSimpArgs false
set_option maxRecDepth 100000

section
variable {w0 w w' : World} {S S' S1 : Blocks} {R L L' L1 M : List Rw} {v c n d t : Nat} {T T' Tc T1 : Tr} {K : Blocks} {sv : Value} {zs : List Int} {E : Et} {B : Nat}
def liveX (t d l hm : Nat) (E : Et) (B : Nat) (D : Dk) (n h side used st : Nat) (recs : List (List Int)) : VX := ⟨t, d, l, hm, E, B, [], D, n, h, side, used, st, recs⟩
set_option maxHeartbeats 4000000 in
theorem vopen_live {D : Dk} {h side used st : Nat} {recs : List (List Int)} (hA : DkAt ⟨w0, S⟩ w d D L) (hL : LogLive D n h side used recs st) (hz : D.left = 0) (hm : Mx w0) (q : Int) (hq : (Lit.int .i64 q).wf = true) {ls : List (List OpB)} {Es : Nat → Et} (hr : Redos q ls Es) (hl0 : 0 < ls.length) (hrec : recs = ls.map recB2) :
    Calls Tryz.prog 17 #[.pointer (some ⟨d, 0, none⟩), .int .i64 q] w fun e w' => ∃ v t l hm S' R L' T, e = .returned (.tuple #[.pointer (some ⟨v, 0, none⟩), .int .i64 0]) ∧ VolIn w0 S' R L' v (liveX t d l hm (Es ls.length) (100 * ls.length) D n h side used st recs) T w' ∧ (∀ x ∈ L, x ∈ L') ∧ (∀ b x, (b, x) ∈ S → (b, x) ∈ S') := by
  have hop := open_live hA hL
  have hmk : ∀ w, (Instr.makeMap 42 none).run Tryz.prog w = .ok (.map (some w.heap.size)) (w.alloc (.map #[] 0)) := fun w => rfl
  have Hr := Lib.hid hr
  have Hv := Lib.hid hL
  have Hz := Lib.hid hz
  have Hrec := Lib.hid hrec
  have HI := Lib.hid (hr.inv ls.length (Nat.le_refl _))
  clear hA hL hz hr hrec
  go_enter Tryz.func17, Tryz.ntmps17
  go_wp2_with fail
  refine hop.mono ?_
  rintro e w1 ⟨l, rfl, hl⟩
  have hls := logs_any hl Hv.out.holds.all Hv.out.many
  have Hl := Lib.hid hl
  clear hop hl
  go_wp2_with fail
  refine hls.mono ?_
  rintro e w2 ⟨lv, vs, M, rfl, hO2, hL2⟩
  obtain ⟨R, hO1, hlog⟩ := Hl.out.openB
  have hO4 : Own ⟨w0, S⟩ w2 (R ++ ((rowV lv vs :: M) ++ L)) := (hO1.join hO2).perm (by
    rw [← List.append_assoc, ← List.append_assoc]; exact List.perm_append_comm.append_right L)
  have hrl : recs.length = ls.length := by rw [Hrec.out, List.length_map]
  have hmd := made_live hO4.shelve hm q hq Hr.out hl0 lv vs (List.mem_append_left _ (List.mem_cons_self ..)) (hL2.1.trans hrl) (fun i hi => by
    have hi2 : i < vs.length := by rw [hL2.1, hrl]; exact hi
    refine ⟨vs[i], List.getElem?_eq_getElem hi2, (hL2.2 i vs[i] (recB2 ls[i]) (List.getElem?_eq_getElem hi2) ?_).mono fun x hx => List.mem_append_left _ (List.mem_cons_of_mem _ hx)⟩
    rw [Hrec.out, List.getElem?_map, List.getElem?_eq_getElem hi]; rfl)
  have Hlog := Lib.hid hlog
  have HO4 := Lib.hid hO4
  clear hls hO2 hL2 hO1 hlog hO4 Hl hrl
  go_wp2_with fail
  refine hmd.mono ?_
  rintro e w3 ⟨t, rfl, S3, L3, T, hO5, hL5, hT5, hR5, hS5, hF5⟩
  have hO6 := HO4.out.unshelve hO5 (fun m hm => hS5 m.1 m.2 (List.mem_append_left _ hm))
  have hT6 : Tree (offR R S3) (Pc L3) t T := hT5.mono (fun b x hb hx => offR_mem.2 ⟨hx, HO4.out.freshR (hF5 b hb)⟩) (fun _ _ hh => hh)
  have hS6 : ∀ b x, (b, x) ∈ S → (b, x) ∈ offR R S3 := fun b x hx => offR_mem.2 ⟨hS5 b x (List.mem_append_right _ hx), HO4.out.offB hx⟩
  have hO7 := (hO6.newB (.map #[] 0)).newB (.cells #[.pointer (some ⟨t, 0, none⟩), .pointer (some ⟨d, 0, none⟩), .pointer (some ⟨l, 0, none⟩), .map (some w3.heap.size), .bool false] 44)
  rw [show (w3.alloc (.map #[] 0)).heap.size = w3.heap.size + 1 by simp] at hO7
  have hlow : ∀ b ∈ t :: T.foot, b < w3.heap.size := fun b hb => by
    obtain ⟨x, hx⟩ := kept_in hT6.at_ b hb
    exact (hO6.atLt hx).2
  have HP := Lib.hid (show VolIn w0 ((w3.heap.size + 1, .cells #[.pointer (some ⟨t, 0, none⟩), .pointer (some ⟨d, 0, none⟩), .pointer (some ⟨l, 0, none⟩), .map (some w3.heap.size), .bool false] 44) :: (w3.heap.size, .map #[] 0) :: offR R S3) R L3 (w3.heap.size + 1) (liveX t d l w3.heap.size (Es ls.length) (100 * ls.length) D n h side used st recs) T ((w3.alloc (.map #[] 0)).alloc (.cells #[.pointer (some ⟨t, 0, none⟩), .pointer (some ⟨d, 0, none⟩), .pointer (some ⟨l, 0, none⟩), .map (some w3.heap.size), .bool false] 44)) from
    ⟨hO7, Hlog.out, hT6.mono (fun b x _ hx => List.mem_cons_of_mem _ (List.mem_cons_of_mem _ hx)) (fun _ _ hh => hh), hR5, HI.out, List.mem_cons_self .., ⟨_, List.mem_cons_of_mem _ (List.mem_cons_self ..), MapO.empty KI⟩,
      ⟨fun hm => by have := hlow (w3.heap.size + 1) hm; omega, fun hm => by have := hlow w3.heap.size hm; omega, by show w3.heap.size + 1 ≠ w3.heap.size; omega⟩, Hv.out, Hz.out⟩)
  have HS := Lib.hid (fun b x (hx : (b, x) ∈ S) => List.mem_cons_of_mem (w3.heap.size + 1, Obj.cells #[.pointer (some ⟨t, 0, none⟩), .pointer (some ⟨d, 0, none⟩), .pointer (some ⟨l, 0, none⟩), .map (some w3.heap.size), .bool false] 44) (List.mem_cons_of_mem (w3.heap.size, Obj.map #[] 0) (hS6 b x hx)))
  have HL := Lib.hid (fun x (hx : x ∈ L) => hL5 x (List.mem_append_right _ hx))
  clear hO5 hL5 hT5 hR5 hS5 hF5 hO6 hT6 hS6 hO7 hlow hmd Hv Hz HO4 Hlog HI Hr Hrec
  go_wp2_with fail
  go_ret2
  exact ⟨_, _, _, _, _, _, _, _, rfl, HP.out, HL.out, HS.out⟩
end
end Go.Proofs.YtlkgmhlaoahdlaaGreatDoor
end

/- The law's volumes, as plain data. -/
section
namespace Go.Proofs.YtlkgmhlaoahdlaaGreatDoor
open Go.RowKit
open Go.ChangeMaps (setBlock)
set_option linter.unusedVariables false
set_option linter.unusedSimpArgs false
set_option maxRecDepth 100000

def pF : List UInt8 := [47, 102]
def pGg : List UInt8 := [47, 103]
def EV1 (q : Int) (A : List Int) : Et := ⟨q, 3, [(1, ⟨true, [(toB [102], 2)], [], 0⟩), (2, ⟨false, [], A, 1⟩)]⟩
def EVm (q : Int) (A B : List Int) : Et := ⟨q, 4, [(1, ⟨true, [(toB [102], 2), (toB [103], 3)], [], 0⟩), (2, ⟨false, [], A, 1⟩), (3, ⟨false, [], B, 1⟩)]⟩
def EV2 (q : Int) (A B : List Int) : Et := ⟨q, 4, [(1, ⟨true, [(toB [102], 3)], [], 0⟩), (2, ⟨false, [], A, 0⟩), (3, ⟨false, [], B, 1⟩)]⟩
def EV3 (q : Int) (B : List Int) : Et := ⟨q, 4, [(1, ⟨true, [(toB [102], 3)], [], 0⟩), (3, ⟨false, [], B, 1⟩)]⟩
def EVu (q : Int) (A : List Int) : Et := ⟨q, 3, [(1, ⟨true, [], [], 0⟩), (2, ⟨false, [], A, 0⟩)]⟩
def EVn (q : Int) : Et := ⟨q, 3, [(1, ⟨true, [], [], 0⟩)]⟩
theorem step_1 (q : Int) (A : List Int) (hA : A.length ≤ 3500) : stepE (E0 q) ⟨2, pF, [], A⟩ = (0, EV1 q A) := by
  have hp : placeE (E0 q) pF = (0, some (1, ⟨true, [], [], 0⟩, [102])) := by rfl
  unfold stepE
  rw [if_neg (show ¬ ((2 : Int) < 0 ∨ (6 : Int) < 2) by decide), hp]
  simp only
  rw [if_neg (by omega)]
  rfl
theorem step_m (q : Int) (A B : List Int) (hB : B.length ≤ 3500) : stepE (EV1 q A) ⟨2, pGg, [], B⟩ = (0, EVm q A B) := by
  have hp : placeE (EV1 q A) pGg = (0, some (1, ⟨true, [(toB [102], 2)], [], 0⟩, [103])) := by rfl
  unfold stepE
  rw [if_neg (show ¬ ((2 : Int) < 0 ∨ (6 : Int) < 2) by decide), hp]
  simp only
  rw [if_neg (by omega)]
  rfl
theorem step_2 (q : Int) (A B : List Int) : stepE (EVm q A B) ⟨5, pGg, pF, []⟩ = (0, EV2 q A B) := by rfl
theorem step_u (q : Int) (A : List Int) : stepE (EV1 q A) ⟨6, pF, [], []⟩ = (0, EVu q A) := by rfl
theorem over_ok' {E : Et} (h1 : E.nodes.length ≤ 128) (h2 : (sumE E.nodes : Int) ≤ E.quota) : overE E = 0 := by
  unfold overE
  rw [if_neg (by omega), if_neg (by omega)]
theorem DoE_one {E E' : Et} {o : OpE} (h : stepE E o = (0, E')) (ho : overE E' = 0) : DoE E [o] = (0, E') := by
  have e : doS E [o] = (0, E') := by
    unfold doS
    rw [h]; rfl
  unfold DoE
  rw [e]
  simp only [if_true]
  rw [if_pos ho]
theorem DoE_two {E Em E' : Et} {o p : OpE} (h : stepE E o = (0, Em)) (h2 : stepE Em p = (0, E')) (ho : overE E' = 0) : DoE E [o, p] = (0, E') := by
  have e : doS E [o, p] = (0, E') := by
    unfold doS
    rw [h]
    simp only [if_true]
    unfold doS
    rw [h2]; rfl
  unfold DoE
  rw [e]
  simp only [if_true]
  rw [if_pos ho]
theorem do_1 (q : Int) (A : List Int) (hA : A.length ≤ 1000) (hq : 1000 ≤ q) : DoE (E0 q) [⟨2, pF, [], A⟩] = (0, EV1 q A) :=
  DoE_one (step_1 q A (by omega)) (over_ok' (by show 2 ≤ 128; decide) (by show ((([0, A.length] : List Nat).sum : Nat) : Int) ≤ q; simp; omega))
theorem do_2 (q : Int) (A B : List Int) (hA : A.length ≤ 1000) (hB : B.length ≤ 1000) (hq : 2000 ≤ q) : DoE (EV1 q A) [⟨2, pGg, [], B⟩, ⟨5, pGg, pF, []⟩] = (0, EV2 q A B) :=
  DoE_two (step_m q A B (by omega)) (step_2 q A B) (over_ok' (by show 3 ≤ 128; decide) (by show ((([0, A.length, B.length] : List Nat).sum : Nat) : Int) ≤ q; simp; omega))
theorem do_u (q : Int) (A : List Int) (hA : A.length ≤ 1000) (hq : 1000 ≤ q) : DoE (EV1 q A) [⟨6, pF, [], []⟩] = (0, EVu q A) :=
  DoE_one (step_u q A) (over_ok' (by show 2 ≤ 128; decide) (by show ((([0, A.length] : List Nat).sum : Nat) : Int) ≤ q; simp; omega))
theorem loose_1 (q : Int) (A : List Int) : looseE (EV1 q A).nodes = [] := by rfl
theorem loose_2 (q : Int) (A B : List Int) : looseE (EV2 q A B).nodes = [2] := by rfl
theorem loose_3 (q : Int) (B : List Int) : looseE (EV3 q B).nodes = [] := by rfl
theorem loose_u (q : Int) (A : List Int) : looseE (EVu q A).nodes = [2] := by rfl
theorem loose_n (q : Int) : looseE (EVn q).nodes = [] := by rfl
theorem reap_2 (q : Int) (A B : List Int) : reapE (EV2 q A B) [2] = EV3 q B := by rfl
theorem reap_u (q : Int) (A : List Int) : reapE (EVu q A) [2] = EVn q := by rfl
theorem find_1 (q : Int) (A : List Int) : findX (EV1 q A) pF = some 2 := by rfl
theorem dir_1 (q : Int) (A : List Int) : dirX (EV1 q A) pF = false := by rfl
/-- The law's operations, packed. -/
def oA (A : List Int) : OpB := ⟨2, [47, 102], [], A⟩
def oB (B : List Int) : OpB := ⟨2, [47, 103], [], B⟩
def oR : OpB := ⟨5, [47, 103], [47, 102], []⟩
theorem oA_ok {A : List Int} (hz : Byts A) (hl : A.length ≤ 1000) : OkB (oA A) := ⟨by show (0 : Int) ≤ 2 ∧ (2 : Int) ≤ 6; decide, ⟨fun z hz => by simp [oA] at hz; omega, by show 2 ≤ 40; decide⟩, ⟨Byts.nil, by show 0 ≤ 40; decide⟩, hz, by show A.length ≤ 3500; omega⟩
theorem oB_ok {B : List Int} (hz : Byts B) (hl : B.length ≤ 1000) : OkB (oB B) := ⟨by show (0 : Int) ≤ 2 ∧ (2 : Int) ≤ 6; decide, ⟨fun z hz => by simp [oB] at hz; omega, by show 2 ≤ 40; decide⟩, ⟨Byts.nil, by show 0 ≤ 40; decide⟩, hz, by show B.length ≤ 3500; omega⟩
theorem oR_ok : OkB oR := ⟨by show (0 : Int) ≤ 5 ∧ (5 : Int) ≤ 6; decide, ⟨fun z hz => by simp [oR] at hz; omega, by show 2 ≤ 40; decide⟩, ⟨fun z hz => by simp [oR] at hz; omega, by show 2 ≤ 40; decide⟩, Byts.nil, by show 0 ≤ 3500; decide⟩
def lsH (A B : List Int) : List (List OpB) := [[oA A], [oB B, oR]]
def EsH (A B : List Int) : Nat → Et
  | 0 => E0 5000
  | 1 => EV1 5000 A
  | _ => EV3 5000 B
theorem len_A (A : List Int) : (packsB [oA A]).length = A.length + 18 := by simp [packsB, packB, oA, le4, sizedL]
theorem len_B (B : List Int) : (packsB [oB B, oR]).length = B.length + 38 := by simp [packsB, packB, oB, oR, le4, sizedL]
theorem redos_H {A B : List Int} (ha : Byts A) (hb : Byts B) (hA : A.length ≤ 1000) (hB : B.length ≤ 1000) : Redos 5000 (lsH A B) (EsH A B) := by
  refine ⟨rfl, fun k hk => ?_, by show 2 ≤ 100; decide⟩
  match k, hk with
  | 0, _ =>
    have e : DoE (EsH A B 0) ((lsH A B)[0].map toOpE) = (0, EV1 5000 A) := do_1 5000 A hA (by decide)
    refine ⟨by show 0 < 1; decide, fun o ho => by rw [List.mem_singleton.1 ho]; exact oA_ok ha hA, by show (packsB [oA A]).length ≤ _; rw [len_A]; omega, by show 1 ≤ 100; decide, by rw [e], fun ids hp => ?_⟩
    rw [e] at hp ⊢
    rw [loose_1] at hp
    rw [List.perm_nil.1 hp]; rfl
  | 1, _ =>
    have e : DoE (EsH A B 1) ((lsH A B)[1].map toOpE) = (0, EV2 5000 A B) := do_2 5000 A B hA hB (by decide)
    refine ⟨by show 0 < 2; decide, fun o ho => ?_, by show (packsB [oB B, oR]).length ≤ _; rw [len_B]; omega, by show 2 ≤ 100; decide, by rw [e], fun ids hp => ?_⟩
    · rcases List.mem_cons.1 ho with rfl | ho
      · exact oB_ok hb hB
      · rw [List.mem_singleton.1 ho]; exact oR_ok
    · rw [e] at hp ⊢
      rw [loose_2] at hp
      rw [List.perm_singleton.1 hp]; exact reap_2 5000 A B
  | k + 2, h => exact absurd h (by show ¬ k + 2 < 2; omega)
section
variable {w0 w w' : World} {S S' S1 : Blocks} {R L L' L1 M : List Rw} {v c n d t b : Nat} {T T' Tc T1 : Tr} {K : Blocks} {sv : Value} {zs : List Int} {E : Et} {B : Nat} {ops : List OpD} {xs : List OpE} {C : Array Value}
/-- Operations that are written out. -/
theorem Ops.lit (hb : (b, .cells C 63) ∈ S) (hC : C.toList = (ops.map OpD.cells).flatten) (hlen : xs.length = ops.length) (hin : ∀ i (h : i < ops.length), OpIn w0 S L ops[i] (xs[i]'(by omega))) : Ops w0 S L (some ⟨b, 0, none⟩) ops xs := by
  refine ⟨hlen, fun w' S' L' k1 k2 k3 i hi => ⟨b, 0, rfl, fun j u hj => ?_⟩, hin⟩
  have hj4 : j < 4 := by
    have := (List.getElem?_eq_some_iff.1 hj).1
    exact this
  rw [k1.cellB (k2 _ _ hb), ← Array.getElem?_toList, hC, Nat.zero_add, flatO _ i j hi hj4]
  exact hj
theorem op_bytesV (k : Int) (p q : ByteArray) (hp : p.size ≤ 1000) (hq : q.size ≤ 1000) {a : Option Addr} {n c : Nat} (hn : n = zs.length) (hd : Byo w0 S [] L (.slice a n c) zs) : OpIn w0 S L ⟨k, p, q, a, n, c⟩ ⟨k, p.data.toList, q.data.toList, zs⟩ :=
  ⟨rfl, rfl, rfl, by unfold maxLen; show p.size ≤ _; omega, by unfold maxLen; show q.size ≤ _; omega, hn, hd⟩
theorem op_noneV (k : Int) (p q : ByteArray) (hp : p.size ≤ 1000) (hq : q.size ≤ 1000) : OpIn w0 S L ⟨k, p, q, none, 0, 0⟩ ⟨k, p.data.toList, q.data.toList, []⟩ :=
  ⟨rfl, rfl, rfl, by unfold maxLen; show p.size ≤ _; omega, by unfold maxLen; show q.size ≤ _; omega, rfl, .inl (Pc.nil L)⟩
/-- /f comes, with bytes. -/
theorem vdo_1 {X : VX} (h : VolIn w0 S R L v X T w) (hm : Mx w0) {a : Option Addr} {A : List Int} {cp cap : Nat} (hb : (b, .cells #[.int .i64 2, .string (toB pF), .string ⟨#[]⟩, .slice a A.length cp] 63) ∈ S) (hd : Byo w0 S [] L (.slice a A.length cp) A) {q : Int} (hX : X.E = E0 q) (hB : X.B = 0) (hu : X.used = 0) (hh : 49 ≤ X.h) (hst : X.st = 3) (hA : A.length ≤ 1000) (hq : 1000 ≤ q) :
    Calls Tryz.prog 19 #[.pointer (some ⟨v, 0, none⟩), .slice (some ⟨b, 0, none⟩) 1 cap] w fun e w' => e = .returned (.int .i64 0) ∧ ∃ D', VolTo w0 S L v X T w.heap.size { X with E := EV1 q A, B := 1, D := D', used := roomM (A.length + 19), recs := X.recs ++ [recB2 [oA A]], st := 103 } w' := by
  have hE := do_1 q A hA hq
  have hrec : recO (pks [⟨2, toB pF, ⟨#[]⟩, a, A.length, cp⟩] [⟨2, pF, [], A⟩]) = recB2 [oA A] := by
    show 111 :: packsD _ = 111 :: packsB _
    rw [packsD_B]; rfl
  have hlen : (recB2 [oA A]).length = A.length + 19 := by show (packsB [oA A]).length + 1 = _; rw [len_A]
  have := vdo_yes h hm (ops := [⟨2, toB pF, ⟨#[]⟩, a, A.length, cp⟩]) (xs := [⟨2, pF, [], A⟩]) (Ops.lit (b := b) hb rfl rfl (fun i hi => by
    match i, hi with
    | 0, _ => exact op_bytesV 2 (toB pF) ⟨#[]⟩ (by decide) (by decide) rfl hd
    | n + 1, h => exact absurd h (by simp))) cap (fun o ho => by rw [List.mem_singleton.1 ho]; exact ⟨by show (0 : Int) ≤ 2; decide, by show (2 : Int) < 4294967296; decide⟩) (fun o ho => by rw [List.mem_singleton.1 ho]; exact ⟨by show (toB pF).size ≤ 100000; decide, by show (0 : Nat) ≤ 100000; decide⟩) (fun x hx => by rw [List.mem_singleton.1 hx]; show A.length ≤ 100000; omega) (fun o ho => by rw [List.mem_singleton.1 ho]; exact .inr (.inr rfl)) (by show 0 < 1; decide) (by rw [hB]; show 0 + 1 ≤ 100000; decide) (by rw [hX, hE]) (by rw [hrec, hlen]; omega) (by rw [hrec, hlen, hu]; unfold roomM; omega) (by omega) (by rw [hX, hE, loose_1]; intro i hi; cases hi)
  refine this.mono fun e w' hd2 => ?_
  obtain ⟨e1, D', k⟩ := hd2
  refine ⟨e1, D', ?_⟩
  unfold doneX at k
  rw [hrec, hlen, hX, hE, hB, hu, hst] at k
  rw [show (0 : Nat) + roomM (A.length + 19) = roomM (A.length + 19) from Nat.zero_add _] at k
  exact k
end
end Go.Proofs.YtlkgmhlaoahdlaaGreatDoor
end

/- The document's example of a volume. -/
section
namespace Go.Proofs.YtlkgmhlaoahdlaaGreatDoor
open Go.RowKit
open Go.ChangeMaps (setBlock)
set_option linter.unusedVariables false
set_option linter.unusedSimpArgs false
set_option maxRecDepth 100000

section
variable {w0 w w' : World} {S S' S1 : Blocks} {R L L' L1 M : List Rw} {v c n d t b : Nat} {X : VX} {T T' Tc T1 : Tr} {K : Blocks} {sv : Value} {zs : List Int} {E : Et} {ops : List OpD} {xs : List OpE} {C : Array Value}
def oU : OpB := ⟨6, [47, 102], [], []⟩
/-- /f goes, while it is held. -/
theorem vdo_u (h : VolIn w0 S R L v X T w) (hm : Mx w0) {A : List Int} {cap : Nat} (hb : (b, .cells #[.int .i64 6, .string (toB pF), .string ⟨#[]⟩, .slice none 0 0] 63) ∈ S) {q : Int} (hX : X.E = EV1 q A) (hB : X.B = 1) (hh : X.used + 2 ≤ X.h) (hst : X.st = 103) (hA : A.length ≤ 1000) (hq : 1000 ≤ q) (hheld : 0 < heldN X.held 2) :
    Calls Tryz.prog 19 #[.pointer (some ⟨v, 0, none⟩), .slice (some ⟨b, 0, none⟩) 1 cap] w fun e w' => e = .returned (.int .i64 0) ∧ ∃ D', VolTo w0 S L v X T w.heap.size { X with E := EVu q A, B := 2, D := D', used := X.used + roomM 19, recs := X.recs ++ [recB2 [oU]], st := 203 } w' := by
  have hE := do_u q A hA hq
  have hrec : recO (pks [⟨6, toB pF, ⟨#[]⟩, none, 0, 0⟩] [⟨6, pF, [], []⟩]) = recB2 [oU] := by
    show 111 :: packsD _ = 111 :: packsB _
    rw [packsD_B]; rfl
  have hlen : (recB2 [oU]).length = 19 := by rfl
  have := vdo_yes h hm (ops := [⟨6, toB pF, ⟨#[]⟩, none, 0, 0⟩]) (xs := [⟨6, pF, [], []⟩]) (Ops.lit (b := b) hb rfl rfl (fun i hi => by
    match i, hi with
    | 0, _ => exact op_noneV 6 (toB pF) ⟨#[]⟩ (by decide) (by decide)
    | n + 1, h => exact absurd h (by simp))) cap (fun o ho => by rw [List.mem_singleton.1 ho]; exact ⟨by show (0 : Int) ≤ 6; decide, by show (6 : Int) < 4294967296; decide⟩) (fun o ho => by rw [List.mem_singleton.1 ho]; exact ⟨by show (toB pF).size ≤ 100000; decide, by show (0 : Nat) ≤ 100000; decide⟩) (fun x hx => by rw [List.mem_singleton.1 hx]; show 0 ≤ 100000; omega) (fun o ho => by rw [List.mem_singleton.1 ho]; exact .inr (.inr rfl)) (by show 0 < 1; decide) (by rw [hB]; show 1 + 1 ≤ 100000; decide) (by rw [hX, hE]) (by rw [hrec, hlen]; omega) (by rw [hrec, hlen]; show X.used + 1 ≤ _; omega) (by omega) (by
      rw [hX, hE, loose_u]
      intro i hi
      rw [List.mem_singleton.1 hi]; exact hheld)
  refine this.mono fun e w' hd2 => ?_
  obtain ⟨e1, D', k⟩ := hd2
  refine ⟨e1, D', ?_⟩
  unfold doneX at k
  rw [hrec, hlen, hX, hE, hB, hst] at k
  exact k
/-- /g comes, and is renamed over /f, which is held. -/
theorem vdo_2 (h : VolIn w0 S R L v X T w) (hm : Mx w0) {a : Option Addr} {A B : List Int} {cp cap : Nat} (hb : (b, .cells #[.int .i64 2, .string (toB pGg), .string ⟨#[]⟩, .slice a B.length cp, .int .i64 5, .string (toB pGg), .string (toB pF), .slice none 0 0] 63) ∈ S) (hd : Byo w0 S [] L (.slice a B.length cp) B) {q : Int} (hX : X.E = EV1 q A) (hB1 : X.B = 1) (hh : X.used + roomM (B.length + 39) ≤ X.h) (hst : X.st = 103) (hA : A.length ≤ 1000) (hB : B.length ≤ 1000) (hq : 2000 ≤ q) (hheld : 0 < heldN X.held 2) :
    Calls Tryz.prog 19 #[.pointer (some ⟨v, 0, none⟩), .slice (some ⟨b, 0, none⟩) 2 cap] w fun e w' => e = .returned (.int .i64 0) ∧ ∃ D', VolTo w0 S L v X T w.heap.size { X with E := EV2 q A B, B := 3, D := D', used := X.used + roomM (B.length + 39), recs := X.recs ++ [recB2 [oB B, oR]], st := 203 } w' := by
  have hE := do_2 q A B hA hB hq
  have hrec : recO (pks [⟨2, toB pGg, ⟨#[]⟩, a, B.length, cp⟩, ⟨5, toB pGg, toB pF, none, 0, 0⟩] [⟨2, pGg, [], B⟩, ⟨5, pGg, pF, []⟩]) = recB2 [oB B, oR] := by
    show 111 :: packsD _ = 111 :: packsB _
    rw [packsD_B]; rfl
  have hlen : (recB2 [oB B, oR]).length = B.length + 39 := by show (packsB [oB B, oR]).length + 1 = _; rw [len_B]
  have hmem : ∀ o ∈ ([⟨2, toB pGg, ⟨#[]⟩, a, B.length, cp⟩, ⟨5, toB pGg, toB pF, none, 0, 0⟩] : List OpD), o = ⟨2, toB pGg, ⟨#[]⟩, a, B.length, cp⟩ ∨ o = ⟨5, toB pGg, toB pF, none, 0, 0⟩ := fun o ho => by simpa using ho
  have := vdo_yes h hm (ops := [⟨2, toB pGg, ⟨#[]⟩, a, B.length, cp⟩, ⟨5, toB pGg, toB pF, none, 0, 0⟩]) (xs := [⟨2, pGg, [], B⟩, ⟨5, pGg, pF, []⟩]) (Ops.lit (b := b) hb rfl rfl (fun i hi => by
    match i, hi with
    | 0, _ => exact op_bytesV 2 (toB pGg) ⟨#[]⟩ (by decide) (by decide) rfl hd
    | 1, _ => exact op_noneV 5 (toB pGg) (toB pF) (by decide) (by decide)
    | n + 2, h => exact absurd h (by simp))) cap (fun o ho => by
      rcases hmem o ho with rfl | rfl
      · exact ⟨by show (0 : Int) ≤ 2; decide, by show (2 : Int) < 4294967296; decide⟩
      · exact ⟨by show (0 : Int) ≤ 5; decide, by show (5 : Int) < 4294967296; decide⟩) (fun o ho => by
      rcases hmem o ho with rfl | rfl
      · exact ⟨by show (toB pGg).size ≤ 100000; decide, by show (0 : Nat) ≤ 100000; decide⟩
      · exact ⟨by show (toB pGg).size ≤ 100000; decide, by show (toB pF).size ≤ 100000; decide⟩) (fun x hx => by
      have hx2 : x = ⟨2, pGg, [], B⟩ ∨ x = ⟨5, pGg, pF, []⟩ := by simpa using hx
      rcases hx2 with rfl | rfl
      · show B.length ≤ 100000; omega
      · show 0 ≤ 100000; omega) (fun o ho => by
      rcases hmem o ho with rfl | rfl
      · exact .inr (.inr rfl)
      · exact .inr (.inl rfl)) (by show 0 < 2; decide) (by rw [hB1]; show 1 + 2 ≤ 100000; decide) (by rw [hX, hE]) (by rw [hrec, hlen]; omega) (by rw [hrec, hlen]; exact hh) (by omega) (by
      rw [hX, hE, loose_2]
      intro i hi
      rw [List.mem_singleton.1 hi]; exact hheld)
  refine this.mono fun e w' hd2 => ?_
  obtain ⟨e1, D', k⟩ := hd2
  refine ⟨e1, D', ?_⟩
  unfold doneX at k
  rw [hrec, hlen, hX, hE, hB1, hst] at k
  exact k
end
def one7 : List Int := [111, 110, 101]
theorem one7_byts : Byts one7 := by unfold one7 Byts; decide
abbrev lit7 : Obj := .cells #[.int .u8 111, .int .u8 110, .int .u8 101] 5 (3, 4)
end Go.Proofs.YtlkgmhlaoahdlaaGreatDoor
end

/- The law's volume with some files. -/
section
namespace Go.Proofs.YtlkgmhlaoahdlaaGreatDoor
open Go.RowKit
open Go.ChangeMaps (setBlock)
set_option linter.unusedVariables false
set_option linter.unusedSimpArgs false
set_option maxRecDepth 100000

def pFa : List UInt8 := [47, 97]
def pFb : List UInt8 := [47, 98]
def pFd : List UInt8 := [47, 100]
def pFc : List UInt8 := [47, 100, 47, 99]
def EO : Et := ⟨2000, 6, [(1, ⟨true, [(toB [97], 2), (toB [98], 3), (toB [100], 4)], [], 0⟩), (2, ⟨false, [], [97], 1⟩), (3, ⟨false, [], [], 1⟩), (4, ⟨true, [(toB [99], 5)], [], 0⟩), (5, ⟨false, [], [], 1⟩)]⟩
theorem do_O : DoE (E0 2000) [⟨2, pFa, [], [97]⟩, ⟨2, pFb, [], []⟩, ⟨0, pFd, [], []⟩, ⟨2, pFc, [], []⟩] = (0, EO) := by rfl
theorem loose_O : looseE EO.nodes = [] := by rfl
abbrev lit1 : Obj := .cells #[.int .u8 97] 5 (1, 2)
def recL : List OpB := [⟨2, [47, 97], [], [97]⟩, ⟨2, [47, 98], [], []⟩, ⟨0, [47, 100], [], []⟩, ⟨2, [47, 100, 47, 99], [], []⟩]
theorem len_O : (recB2 recL).length = 76 := by rfl
theorem byts97 : Byts [97] := by unfold Byts; decide
section
variable {w0 w w' : World} {S S' S1 : Blocks} {R L L' L1 M : List Rw} {v c n d t b : Nat} {X : VX} {T T' Tc T1 : Tr} {K : Blocks}
def opsO (a : Option Addr) (cp : Nat) : List OpD := [⟨2, toB pFa, ⟨#[]⟩, a, 1, cp⟩, ⟨2, toB pFb, ⟨#[]⟩, none, 0, 0⟩, ⟨0, toB pFd, ⟨#[]⟩, none, 0, 0⟩, ⟨2, toB pFc, ⟨#[]⟩, none, 0, 0⟩]
def xsO : List OpE := [⟨2, pFa, [], [97]⟩, ⟨2, pFb, [], []⟩, ⟨0, pFd, [], []⟩, ⟨2, pFc, [], []⟩]
theorem mem_opsO {a : Option Addr} {cp : Nat} {o : OpD} (h : o ∈ opsO a cp) : (0 ≤ o.kind ∧ o.kind < 4294967296) ∧ (o.p.size ≤ 100000 ∧ o.q.size ≤ 100000) ∧ o.q = ⟨#[]⟩ := by
  simp only [opsO, List.mem_cons, List.not_mem_nil, or_false] at h
  rcases h with rfl | rfl | rfl | rfl
  · exact ⟨by show (0 : Int) ≤ 2 ∧ (2 : Int) < 4294967296; decide, by show (toB pFa).size ≤ 100000 ∧ (0 : Nat) ≤ 100000; decide, rfl⟩
  · exact ⟨by show (0 : Int) ≤ 2 ∧ (2 : Int) < 4294967296; decide, by show (toB pFb).size ≤ 100000 ∧ (0 : Nat) ≤ 100000; decide, rfl⟩
  · exact ⟨by show (0 : Int) ≤ 0 ∧ (0 : Int) < 4294967296; decide, by show (toB pFd).size ≤ 100000 ∧ (0 : Nat) ≤ 100000; decide, rfl⟩
  · exact ⟨by show (0 : Int) ≤ 2 ∧ (2 : Int) < 4294967296; decide, by show (toB pFc).size ≤ 100000 ∧ (0 : Nat) ≤ 100000; decide, rfl⟩
theorem vdo_O (h : VolIn w0 S R L v X T w) (hm : Mx w0) {a : Option Addr} {cp cap : Nat} (hb : (b, .cells #[.int .i64 2, .string (toB pFa), .string ⟨#[]⟩, .slice a 1 cp, .int .i64 2, .string (toB pFb), .string ⟨#[]⟩, .slice none 0 0, .int .i64 0, .string (toB pFd), .string ⟨#[]⟩, .slice none 0 0, .int .i64 2, .string (toB pFc), .string ⟨#[]⟩, .slice none 0 0] 63) ∈ S) (hd : Byo w0 S [] L (.slice a 1 cp) [97]) (hX : X.E = E0 2000) (hB : X.B = 0) (hu : X.used = 0) (hh : 49 ≤ X.h) (hst : X.st = 3) :
    Calls Tryz.prog 19 #[.pointer (some ⟨v, 0, none⟩), .slice (some ⟨b, 0, none⟩) 4 cap] w fun e w' => e = .returned (.int .i64 0) ∧ ∃ D', VolTo w0 S L v X T w.heap.size { X with E := EO, B := 4, D := D', used := 2, recs := X.recs ++ [recB2 recL], st := 103 } w' := by
  have hrec : recO (pks (opsO a cp) xsO) = recB2 recL := by
    show 111 :: packsD _ = 111 :: packsB _
    rw [packsD_B]; rfl
  have hE : DoE (E0 2000) xsO = (0, EO) := do_O
  have := vdo_yes h hm (ops := opsO a cp) (xs := xsO) (Ops.lit (b := b) hb rfl rfl (fun i hi => by
    match i, hi with
    | 0, _ => exact op_bytesV 2 (toB pFa) ⟨#[]⟩ (by decide) (by decide) rfl hd
    | 1, _ => exact op_noneV 2 (toB pFb) ⟨#[]⟩ (by decide) (by decide)
    | 2, _ => exact op_noneV 0 (toB pFd) ⟨#[]⟩ (by decide) (by decide)
    | 3, _ => exact op_noneV 2 (toB pFc) ⟨#[]⟩ (by decide) (by decide)
    | n + 4, h => exact absurd h (by simp [opsO]))) cap (fun o ho => (mem_opsO ho).1) (fun o ho => (mem_opsO ho).2.1) (fun x hx => by
      simp only [xsO, List.mem_cons, List.not_mem_nil, or_false] at hx
      rcases hx with rfl | rfl | rfl | rfl <;> decide) (fun o ho => .inr (.inr (mem_opsO ho).2.2)) (by show 0 < 4; decide) (by rw [hB]; show 0 + 4 ≤ 100000; decide) (by rw [hX, hE]) (by rw [hrec, len_O]; decide) (by rw [hrec, len_O, hu]; unfold roomM; omega) (by omega) (by rw [hX, hE, loose_O]; intro i hi; cases hi)
  refine this.mono fun e w' hd2 => ?_
  obtain ⟨e1, D', k⟩ := hd2
  refine ⟨e1, D', ?_⟩
  unfold doneX at k
  rw [hrec, len_O, hX, hE, hB, hu, hst] at k
  exact k
end
set_option maxHeartbeats 8000000 in
theorem popen_any (w : World) (hm : Mx w) : Calls Tryz.prog 6 #[] w fun e w' => ∃ v X, e = .returned (.pointer (some ⟨v, 0, none⟩)) ∧ VolAt w w' [] [] v X ∧ X.E = EO ∧ X.held = [] := by
  have hnew := new_pos w w [] 500 (Own.start w) (by decide) (by decide)
  go_enter Tryz.func6, Tryz.ntmps6
  go_wp2_with fail
  refine hnew.mono ?_
  rintro e w1 ⟨d, rfl, hA1⟩
  have hop := vopen_new (w0 := w) (S := []) (L := []) hA1 (by decide) (by decide) 2000 (by decide)
  clear hnew hA1
  go_wp2_with fail
  refine hop.mono ?_
  rintro e w2 ⟨v, t, l, hmb, D, S1, R1, T1, rfl, h1, _, _⟩
  have c0 : w2.cell? ⟨v, 0, none⟩ = some (.pointer (some ⟨t, 0, none⟩)) := h1.atV.1.1
  have hO3 := (h1.own.newB lit1).newB (.cells #[.int .i64 2, .string (toB pFa), .string ⟨#[]⟩, .slice (some ⟨w2.heap.size, 0, none⟩) 1 1, .int .i64 2, .string (toB pFb), .string ⟨#[]⟩, .slice none 0 0, .int .i64 0, .string (toB pFd), .string ⟨#[]⟩, .slice none 0 0, .int .i64 2, .string (toB pFc), .string ⟨#[]⟩, .slice none 0 0] 63)
  rw [show (w2.alloc lit1).heap.size = w2.heap.size + 1 by simp] at hO3
  have h3 := h1.base hO3 (fun b x hx _ => List.mem_cons_of_mem _ (List.mem_cons_of_mem _ hx))
  have hdo := vdo_O h3 hm (cp := 1) (cap := 4) (b := w2.heap.size + 1) (List.mem_cons_self ..) (.inr (.inr ⟨w2.heap.size, _, _, _, List.mem_cons_of_mem _ (List.mem_cons_self ..), (by simp), rfl, rfl, byts97, by decide⟩)) rfl rfl rfl (by show 49 ≤ (500 - 2) / 2; decide) rfl
  have hcs := conv_constL w2 #[.int .u8 97] 1 1
  clear hop h1 hO3 h3
  go_wp2_with fail
  refine hdo.mono ?_
  rintro e w3 ⟨rfl, D3, S3, R3, L3, T3, h4, _, _, _, _, _⟩
  have HP := Lib.hid (show ∃ v' X, Ending.returned (.pointer (some ⟨v, 0, none⟩)) = .returned (.pointer (some ⟨v', 0, none⟩)) ∧ VolAt w w3 [] [] v' X ∧ X.E = EO ∧ X.held = [] from ⟨v, _, rfl, ⟨S3, R3, L3, T3, h4, (fun x hx => by cases hx), fun b x hb => by cases hb⟩, rfl, rfl⟩)
  clear hdo hcs c0 h4
  go_wp2_with fail
  go_ret
  exact HP.out
end Go.Proofs.YtlkgmhlaoahdlaaGreatDoor
end

/- The document's example of what runs. -/
section
namespace Go.Proofs.YtlkgmhlaoahdlaaGreatDoor
open Go.RowKit
open Go.ChangeMaps (setBlock)
set_option linter.unusedVariables false
set_option linter.unusedSimpArgs false
set_option maxRecDepth 100000

section
variable {w0 w w' : World} {S S' S1 : Blocks} {R L L' L1 M L0 : List Rw} {v c n d : Nat} {X X' X1 X2 : VX} {T T' Tc T1 : Tr} {Y Y' : Tab} {K K' : Blocks} {fv : Value} {acc : List Int}
theorem VT.newK (h : VT w0 K L0 v X Y w) (o : Obj) : VT w0 ((w.heap.size, o) :: K) L0 v X Y (w.alloc o) := by
  obtain ⟨S, R, L, T, h1, h2, h3, h4, h5⟩ := h
  have hO := h1.own.newB o
  refine ⟨(w.heap.size, o) :: S, R, L, T, h1.base hO fun b x hx _ => List.mem_cons_of_mem _ hx, h2.mono (fun b x _ hx => List.mem_cons_of_mem _ hx) (fun _ hx => hx), h3, h4, fun b x hb => ?_⟩
  rcases List.mem_cons.1 hb with e | hb
  · obtain ⟨rfl, rfl⟩ := Prod.mk.inj e
    exact ⟨List.mem_cons_self .., fun hx => (by have := (h1.lt hx).2; omega), fun hx => (by have := h2.lt h1.ownL _ hx; omega)⟩
  · obtain ⟨q1, q2, q3⟩ := h5 b x hb
    exact ⟨List.mem_cons_of_mem _ q1, q2, q3⟩
theorem VT.join (h : VT w0 K L0 v X Y w) (k : Own w w' M) : VT w0 K (M ++ L0) v X Y w' := by
  obtain ⟨S, R, L, T, h1, h2, h3, h4, h5⟩ := h
  refine ⟨S, R, M ++ L, T, h1.join k, h2.mono (fun b x _ hx => hx) (fun x hx => List.mem_append_right _ hx), h3, fun x hx => ?_, h5⟩
  rcases List.mem_append.1 hx with hx | hx
  · exact List.mem_append_left _ hx
  · exact List.mem_append_right _ (h4 x hx)
theorem VT.heldAt (h : VT w0 K L0 v X Y w) (i : Int) : Calls Tryz.prog 13 #[.pointer (some ⟨v, 0, none⟩), .int .i64 i] w fun e w' => e = .returned (.int .i64 (heldN X.held i)) ∧ w = w' := by
  obtain ⟨S, R, L, T, h1, h2, h3, h4, h5⟩ := h
  exact held_any h1 i
theorem VT.paths2 {b : Nat} {p q : ByteArray} (hb : (b, Obj.cells #[.string p, .string q] 9) ∈ K) (X' : VX) (w' : World) (k : VT w0 K L0 v X' Y w') (i : Nat) (hi : i < [p, q].length) : ∃ g o, some (⟨b, 0, none⟩ : Addr) = some ⟨g, o, none⟩ ∧ w'.cell? ⟨g, o + i, none⟩ = some (.string ([p, q][i])) := by
  refine ⟨b, 0, rfl, ?_⟩
  rw [Nat.zero_add, cell_at (k.cellK hb) i]
  match i, hi with
  | 0, _ => rfl
  | 1, _ => rfl
  | n + 2, h => exact absurd h (by simp)
end
theorem owned_form {w : World} {b e size n : Nat} {v : Value} {xs : List Value} (h : w.ownsRow b e size v n xs) : ∃ a c, v = .slice a n c := by
  rcases h.2 with ⟨rfl, rfl⟩ | ⟨g, cp, cur, rfl, _⟩
  · exact ⟨_, _, rfl⟩
  · exact ⟨_, _, rfl⟩
def pFx : List UInt8 := [47, 120]
def uU : ByteArray := ⟨#[117]⟩
/-- What is held once all of the example's files are let go. -/
theorem held_end (xt xd xl xh B : Nat) (D : Dk) (xn xhh xs xu xst : Nat) (xr : List (List Int)) : heldN (letAll ⟨xt, xd, xl, xh, EO, B, [(2, 1), (5, 1)], D, xn, xhh, xs, xu, xst, xr⟩ [2, 5]).held 2 = 0 := by
  have e1 : letX ⟨xt, xd, xl, xh, EO, B, [(2, 1), (5, 1)], D, xn, xhh, xs, xu, xst, xr⟩ 2 = ⟨xt, xd, xl, xh, reapE EO [2], B, [(5, 1)], D, xn, xhh, xs, xu, xst, xr⟩ := by
    unfold letX
    have hh : heldN [(2, 1), (5, 1)] 2 = 1 := by rfl
    dsimp only
    rw [hh, if_neg (show ¬ (1 : Int) = 0 by decide), if_pos rfl]
    rfl
  have e2 : ∀ E, letX ⟨xt, xd, xl, xh, E, B, [(5, 1)], D, xn, xhh, xs, xu, xst, xr⟩ 5 = ⟨xt, xd, xl, xh, reapE E [5], B, [], D, xn, xhh, xs, xu, xst, xr⟩ := fun E => by
    unfold letX
    have hh : heldN [(5, 1)] 5 = 1 := by rfl
    dsimp only
    rw [hh, if_neg (show ¬ (1 : Int) = 0 by decide), if_pos rfl]
    rfl
  unfold letAll
  rw [List.foldl_cons, e1, List.foldl_cons, e2, List.foldl_nil]
  rfl
end Go.Proofs.YtlkgmhlaoahdlaaGreatDoor
end

/- The document's example of what runs: the walk. -/
section
namespace Go.Proofs.YtlkgmhlaoahdlaaGreatDoor
open Go.RowKit
open Go.ChangeMaps (setBlock)
set_option linter.unusedVariables false
set_option linter.unusedSimpArgs false
set_option maxRecDepth 100000

set_option maxHeartbeats 8000000 in
theorem proc_alive (w : World) (hm : Mx w) : Calls Tryz.prog 5 #[] w fun e w' => e = .returned (.bool true) ∧ Below w.heap.size w w' := by
  have hop := popen_any w hm
  go_enter Tryz.func5, Tryz.ntmps5
  go_wp2_with fail
  refine hop.mono ?_
  rintro e w1 ⟨v, X, rfl, h1, hE, hH⟩
  have hnw := pnew_any h1
  unfold filesV at hnw
  clear hop h1
  go_wp2_with fail
  refine hnw.mono ?_
  rintro e w2 ⟨⟨tb, mb, last, runs⟩, rfl, rfl, rfl, h2⟩
  obtain ⟨xt, xd, xl, xh, E, B, held, D, xn, xhh, xs, xu, xst, xr⟩ := X
  dsimp only at hE hH
  subst hE hH
  have h3 := h2.newK (.cells #[.string (toB pFa), .string (toB pFc)] 9)
  have ho : HeldOk 0 (⟨xt, xd, xl, xh, EO, B, [], D, xn, xhh, xs, xu, xst, xr⟩ : VX) := ⟨List.nodup_nil, fun i => ⟨Int.le_refl 0, Int.le_refl 0⟩⟩
  have hs1 : Calls Tryz.prog 8 #[.pointer (some ⟨tb, 0, none⟩), .string uU, .slice (some ⟨w2.heap.size, 0, none⟩) 2 2] (w2.alloc (.cells #[.string (toB pFa), .string (toB pFc)] 9)) fun e w' => e = .returned (.tuple #[.int .i64 1, .int .i64 0]) ∧ ∃ b fv, VT w _ [] v ⟨xt, xd, xl, xh, EO, B, [(2, 1), (5, 1)], D, xn, xhh, xs, xu, xst, xr⟩ ⟨tb, mb, 1, [(1, ⟨b, uU, fv, [2, 5], false⟩)]⟩ w' :=
    spawn_yes h3 hm ho uU (some ⟨w2.heap.size, 0, none⟩) [toB pFa, toB pFc] 2 (by decide) (fun p hp => by
      simp only [List.mem_cons, List.not_mem_nil, or_false] at hp
      rcases hp with rfl | rfl <;> decide) (fun w' X' k i hi => VT.paths2 (List.mem_cons_self ..) X' w' k i hi) (by decide) (by show 0 < 32; decide) (by rfl) ⟨by show (0 : Int) ≤ 0; decide, by show (0 : Int) ≤ 1000000000; decide⟩ rfl
  clear hnw h2 h3
  unfold uU at hs1
  go_wp2_with fail
  refine hs1.mono ?_
  rintro e w3 ⟨rfl, pb, fv, h4⟩
  have h5 := (h4.blocks (K' := []) (fun b x hb => by cases hb)).newK (.cells #[.string (toB pFa), .string (toB pFx)] 9)
  have ho2 : HeldOk 2 (⟨xt, xd, xl, xh, EO, B, [(2, 1), (5, 1)], D, xn, xhh, xs, xu, xst, xr⟩ : VX) := holdX_ok (holdX_ok ho pFa) pFc
  have hs2 : Calls Tryz.prog 8 #[.pointer (some ⟨tb, 0, none⟩), .string uU, .slice (some ⟨w3.heap.size, 0, none⟩) 2 2] (w3.alloc (.cells #[.string (toB pFa), .string (toB pFx)] 9)) fun e w' => e = .returned (.tuple #[.int .i64 0, .int .i64 8]) ∧ VT w _ [] v ⟨xt, xd, xl, xh, EO, B, [(2, 1), (5, 1)], D, xn, xhh, xs, xu, xst, xr⟩ ⟨tb, mb, 1, [(1, ⟨pb, uU, fv, [2, 5], false⟩)]⟩ w' :=
    spawn_no h5 hm ho2 uU (some ⟨w3.heap.size, 0, none⟩) [toB pFa, toB pFx] 2 (by decide) (fun p hp => by
      simp only [List.mem_cons, List.not_mem_nil, or_false] at hp
      rcases hp with rfl | rfl <;> decide) (fun w' X' k i hi => VT.paths2 (List.mem_cons_self ..) X' w' k i hi) (by decide) (by show 1 < 32; decide) (ids := []) (by rfl) (by decide)
  clear hs1 h4 h5
  unfold uU at hs2
  go_wp2_with fail
  refine hs2.mono ?_
  rintro e w4 ⟨rfl, h6⟩
  have h7 := h6.blocks (K' := []) (fun b x hb => by cases hb)
  have hhd : Calls Tryz.prog 13 #[.pointer (some ⟨v, 0, none⟩), .int .i64 2] w4 fun e w' => e = .returned (.int .i64 1) ∧ w4 = w' := h7.heldAt 2
  clear hs2 h6
  go_wp2_with fail
  refine hhd.mono ?_
  rintro e w5 ⟨rfl, rfl⟩
  have hk : Calls Tryz.prog 9 #[.pointer (some ⟨tb, 0, none⟩), .int .i64 1] w4 fun e w' => e = .returned (.int .i64 0) ∧ VT w [] [] v ⟨xt, xd, xl, xh, EO, B, [(2, 1), (5, 1)], D, xn, xhh, xs, xu, xst, xr⟩ ⟨tb, mb, 1, [(1, ⟨pb, uU, fv, [2, 5], true⟩)]⟩ w' := kill_yes h7 (by show [(1 : Int)].Nodup; decide) 1 rfl
  clear hhd h7
  go_wp2_with fail
  refine hk.mono ?_
  rintro e w6 ⟨rfl, h8⟩
  have hg : Calls Tryz.prog 16 #[.pointer (some ⟨tb, 0, none⟩), .int .i64 1] w6 fun e w' => ∃ mv : Value, e = .returned (.tuple #[.agg #[.int .i64 1, .string uU, mv, .bool true], .bool true]) ∧ VT w [] [] v ⟨xt, xd, xl, xh, EO, B, [(2, 1), (5, 1)], D, xn, xhh, xs, xu, xst, xr⟩ ⟨tb, mb, 1, [(1, ⟨pb, uU, fv, [2, 5], true⟩)]⟩ w' ∧ Own w6 w' [rowI mv [2, 5]] := get_yes h8 1 rfl (by show 2 ≤ 1000000; decide)
  have H8 := Lib.hid h8
  unfold uU at hg
  clear hk h8
  go_wp2_with fail
  refine hg.mono ?_
  rintro e w7 ⟨mv, rfl, _, hO7⟩
  obtain ⟨ma, mc, rfl, _, _⟩ := Own.sized (h := (show Own _ w7 (⟨3, 1, mv, 2, [.int .i64 2, .int .i64 5]⟩ :: []) from hO7))
  have h9 := (H8.out.join hO7).newK (.cells #[.int .i64 1, .string uU, .slice ma 2 mc, .bool true] 54)
  have hpk : Calls Tryz.prog 10 #[.pointer (some ⟨tb, 0, none⟩), .int .i64 1] (w7.alloc (.cells #[.int .i64 1, .string uU, .slice ma 2 mc, .bool true] 54)) fun e w' => e = .returned (.tuple #[.bool true, .int .i64 0]) ∧ VT w _ _ v (letAll ⟨xt, xd, xl, xh, EO, B, [(2, 1), (5, 1)], D, xn, xhh, xs, xu, xst, xr⟩ [2, 5]) ⟨tb, mb, 1, []⟩ w' := pick_end h9 (by show [(1 : Int)].Nodup; decide) ho2 (by decide) 1 rfl (by show 2 ≤ 1000000; decide) rfl
  unfold uU at hpk
  clear hg H8 hO7 h9
  go_wp2_with fail
  refine hpk.mono ?_
  rintro e w8 ⟨rfl, h10⟩
  obtain ⟨_, hr10⟩ := h10.row (List.mem_cons_self ..)
  have hr10' : Own _ w8 (⟨3, 1, .slice ma 2 mc, 2, [.int .i64 2, .int .i64 5]⟩ :: []) := hr10
  obtain ⟨g, gc, e5, _⟩ := Own.form (h := hr10') (by decide)
  injection e5 with e6 e7 e8
  subst e6 e8
  have r0 : w8.cell? ⟨g, 0, none⟩ = some (.int .i64 2) := Own.cell (h := hr10') 0 (by decide)
  have hq : w8.heap[w7.heap.size]? = some (.cells #[.int .i64 1, .string ⟨#[117]⟩, .slice (some ⟨g, 0, none⟩) 2 mc, .bool true] 54) := h10.cellK (List.mem_cons_self ..)
  have q1 : w8.cell? ⟨w7.heap.size, 1, none⟩ = some (.string ⟨#[117]⟩) := by rw [cell_at hq 1]; rfl
  have q2 : w8.cell? ⟨w7.heap.size, 2, none⟩ = some (.slice (some ⟨g, 0, none⟩) 2 mc) := by rw [cell_at hq 2]; rfl
  have q3 : w8.cell? ⟨w7.heap.size, 3, none⟩ = some (.bool true) := by rw [cell_at hq 3]; rfl
  have hls := plist_any (Y := ⟨tb, mb, 1, []⟩) h10 List.nodup_nil (fun p hp => nomatch hp) (Nat.zero_le _)
  dsimp only at hls
  have H10 := Lib.hid h10
  clear hpk h10 hr10 hr10' hq
  go_wp2_with (first
    | (go_at_call 14; refine hls.mono ?_; rintro e w9 ⟨lv, ss, rfl, hp, hrow, hb⟩; have hss : ss = [] := List.perm_nil.1 hp; subst hss; obtain ⟨la, lc, rfl⟩ := owned_form hrow; have hh9 : Calls Tryz.prog 13 #[.pointer (some ⟨v, 0, none⟩), .int .i64 2] w9 (fun e w' => e = .returned (.int .i64 0) ∧ w9 = w') := (by have h12 := (H10.out.later hb).heldAt 2; rw [held_end] at h12; exact h12); have HB := Lib.hid (H10.out.later hb).below; clear hp hrow hb)
    | (go_at_call 13; refine hh9.mono ?_; rintro e w10 ⟨rfl, rfl⟩))
  go_ret
  exact ⟨rfl, HB.out⟩
end Go.Proofs.YtlkgmhlaoahdlaaGreatDoor
end

/- Operations, numbers, and batches of both, as arguments. -/
section
namespace Go.Proofs.YtlkgmhlaoahdlaaGreatDoor
open Go.RowKit Go.WideShapes Go.ChangeShapes
set_option linter.unusedVariables false
set_option linter.unusedSimpArgs false
set_option maxRecDepth 100000

theorem choose_list {β : Type} {P : Nat → β → Prop} : ∀ (n : Nat), (∀ i < n, ∃ y, P i y) → ∃ l : List β, l.length = n ∧ ∀ i (hi : i < l.length), P i l[i] := by
  intro n
  induction n with
  | zero => intro _; exact ⟨[], rfl, fun i hi => absurd hi (by simp)⟩
  | succ n ih =>
    intro h
    obtain ⟨l, h1, h2⟩ := ih fun i hi => h i (by omega)
    obtain ⟨y, hy⟩ := h n (Nat.lt_succ_self n)
    refine ⟨l ++ [y], by simp [h1], fun i hi => ?_⟩
    by_cases hin : i < l.length
    · rw [List.getElem_append_left hin]; exact h2 i hin
    · have : i = l.length := by simp at hi; omega
      subst this
      simp only [List.getElem_append_right (Nat.le_refl _), Nat.sub_self, List.getElem_cons_zero]
      rw [h1]; exact hy
theorem spot_zero {ad : Addr} {w : World} {v : Value} (h : w.cell? (ad.add 0) = some v) : ad.spot = none := by
  have := World.cell?_spot h
  unfold Addr.add at this
  rwa [if_pos rfl] at this
theorem spot_cells {w : World} {base n : Nat} {ad : Addr} {cs : List Value} (h : w.cells? base (ad.add (0 * n)) n = some cs) (hn : 0 < n) : ad.spot = none := by
  obtain ⟨_, h2, h3⟩ := World.cells?_some h
  have h0 := h3 0 hn
  rw [List.getElem?_eq_getElem (by omega), Nat.zero_mul] at h0
  have e : (ad.add 0) = ad := by unfold Addr.add; rw [if_pos rfl]
  rw [e] at h0
  exact spot_zero h0
theorem cells_at {w : World} {base k n : Nat} {ad : Addr} {cs : List Value} (h : w.cells? base (ad.add k) n = some cs) (hs : ad.spot = none) : ∃ b off, ad = ⟨b, off, none⟩ ∧ w.rangeAt b (off + k) cs ∧ cs.length = n := by
  obtain ⟨_, h2, h3⟩ := World.cells?_some h
  obtain ⟨b, off, spot⟩ := ad
  have hs : spot = none := hs
  subst hs
  refine ⟨b, off, rfl, fun j v hj => ?_, h2⟩
  have hjl : j < n := by
    rw [← h2]
    exact (List.getElem?_eq_some_iff.1 hj).1
  have := h3 j hjl
  rw [Addr.add_mid, Addr.add_mid] at this
  rw [this]; exact hj
theorem cellsOfOp : Tryz.prog.cellsOf 63 = 4 := by kernel_rfl
theorem cellsOfStr : Tryz.prog.cellsOf 9 = 1 := by kernel_rfl
theorem cellsOfInt : Tryz.prog.cellsOf 3 = 1 := by kernel_rfl
theorem cellsOfBy : Tryz.prog.cellsOf 61 = 1 := by kernel_rfl
theorem cellsOfOps : Tryz.prog.cellsOf 98 = 1 := by kernel_rfl
theorem cellsOfInts : Tryz.prog.cellsOf 22 = 1 := by kernel_rfl
theorem open_by2 {H : Type} {enc : TypeId × Value → H} {w : World} {base fuel : Nat} {held : Bool} {v : Value} {x : DataW H × List MemPlace} (hf : DataW.trod enc Tryz.prog w base (fun _ => true) held fuel 61 [v] = some x) : ∃ zs, By w v zs := by
  rcases open_ints Tryz.underlying61 Tryz.underlying5 (by kernel_rfl) hf with ⟨hcs, _⟩ | ⟨xa, l, c, zs, hcs, _, hl, hm, hz, _, hcell, hwz⟩
  · injection hcs with hcs _
    exact ⟨[], by rw [hcs]; exact By.nil w⟩
  · injection hcs with hcs _
    have hz2 : zs.length = c := by simpa using hz
    exact ⟨zs.take l, by rw [hcs]; exact by_arg w _ _ _ zs hl hm hz2 hcell hwz⟩
theorem bulk_one {H : Type} (d : DataW H) : 1 ≤ Rows.uptoBulk d := by
  cases d with
  | lit l => cases l <;> simp [Rows.uptoBulk]
  | nil => simp [Rows.uptoBulk]
  | ptr d => simp [Rows.uptoBulk]
  | slice elems spare => simp [Rows.uptoBulk]
  | agg parts => simp [Rows.uptoBulk]
  | iface t d => simp [Rows.uptoBulk]
  | map entries => simp [Rows.uptoBulk]
  | held h => simp [Rows.uptoBulk]
theorem bulk_sum {H : Type} (f : Nat → Nat) (D : Nat → DataW H) : ∀ (n : Nat), (∀ i < n, f i ≤ Rows.uptoBulk (D i)) → ((List.range n).map f).sum ≤ Rows.uptoBulkAll ((List.range n).map D) := by
  have app : ∀ l r : List (DataW H), Rows.uptoBulkAll (l ++ r) = Rows.uptoBulkAll l + Rows.uptoBulkAll r := by
    intro l r
    induction l with
    | nil => simp [Rows.uptoBulkAll]
    | cons x l ih => simp only [List.cons_append, Rows.uptoBulkAll, ih]; omega
  intro n
  induction n with
  | zero => intro _; simp
  | succ n ih =>
    intro h
    have h1 := ih fun i hi => h i (by omega)
    have h2 := h n (Nat.lt_succ_self n)
    rw [List.range_succ, List.map_append, List.map_append, List.sum_append, app]
    simp only [List.map_cons, List.map_nil, List.sum_cons, List.sum_nil, Rows.uptoBulkAll]
    omega
theorem open_ops {H : Type} {enc : TypeId × Value → H} {w : World} {base fuel : Nat} {held : Bool} {v : Value} {x : DataW H × List MemPlace} (hf : DataW.trod enc Tryz.prog w base (fun _ => true) held fuel 98 [v] = some x) :
    ∃ a ops xs cap, v = .slice a ops.length cap ∧ OpsA w a ops xs ∧ ops.length + 1 ≤ Rows.uptoBulk x.1 ∧ ops.length ≤ maxLen := by
  rcases Go.Deep.open_slice Tryz.underlying98 hf with ⟨h1, hx⟩ | ⟨ad, len, cp, m, q, D, Pl, h1, hb, hl, hm, hmm, hxx, hx⟩
  · injection h1 with h1 _
    subst h1
    refine ⟨none, [], [], 0, rfl, ⟨rfl, fun i hi => absurd hi (by simp), fun i hi => absurd hi (by simp)⟩, ?_, Nat.zero_le _⟩
    exact bulk_one _
  · injection h1 with h1 _
    subst h1
    have hsp0 : 0 < len → ad.spot = none := fun h0 => by
      obtain ⟨cs, hc, _⟩ := hx 0 (by rw [hmm]; split <;> omega)
      rw [cellsOfOp] at hc
      exact spot_cells hc (by decide)
    have each : ∀ i < len, ∃ y : OpD × OpE, (∃ g off, (some ad) = some ⟨g, off, none⟩ ∧ w.rangeAt g (off + i * 4) y.1.cells) ∧ OpOld w y.1 y.2 := fun i hi => by
      obtain ⟨cs, hc, ht⟩ := hx i (by rw [hmm]; split <;> omega)
      rw [cellsOfOp] at hc
      obtain ⟨b, off, e, hr, hlen⟩ := cells_at hc (hsp0 (by omega))
      obtain ⟨c0, c1, c2, c3, rfl⟩ : ∃ c0 c1 c2 c3, cs = [c0, c1, c2, c3] := by
        match cs, hlen with
        | [c0, c1, c2, c3], _ => exact ⟨c0, c1, c2, c3, rfl⟩
      obtain ⟨y0, y1, y2, y3, n', _, hcl, t0, t1, t2, t3⟩ := Go.Joins.trod_struct4 Tryz.underlying63 ht
      simp only [cellsOfStr, cellsOfInt, cellsOfBy, List.drop_zero, List.drop_succ_cons, List.take_succ_cons, List.take_zero] at t0 t1 t2 t3
      obtain ⟨κ, e0, _, w0⟩ := DataW.trod_int Tryz.underlying3 t0
      obtain ⟨s1, e1, _, w1⟩ := DataW.trod_string Tryz.underlying9 t1
      obtain ⟨s2, e2, _, w2⟩ := DataW.trod_string Tryz.underlying9 t2
      obtain ⟨zs, hby⟩ := open_by2 t3
      injection e0 with e0 _; injection e1 with e1 _; injection e2 with e2 _
      subst e0 e1 e2
      obtain ⟨va, vc, hv⟩ : ∃ a c, c3 = .slice a zs.length c := by obtain ⟨_, _, a, c, h, _⟩ := hby; exact ⟨a, c, h⟩
      subst hv
      exact ⟨(⟨κ, s1, s2, va, zs.length, vc⟩, ⟨κ, s1.data.toList, s2.data.toList, zs⟩), ⟨b, off, by rw [e], hr⟩, rfl, rfl, rfl, w1, w2, rfl, hby⟩
    obtain ⟨l, hl1, hl2⟩ := choose_list len each
    have e1 : (l.map (·.1)).length = len := by simp [hl1]
    refine ⟨some ad, l.map (·.1), l.map (·.2), cp, by rw [e1], ⟨by simp, fun i hi => ?_, fun i hi => ?_⟩, ?_, by omega⟩
    · have hi' : i < l.length := by simpa using hi
      rw [List.getElem_map]
      exact (hl2 i hi').1
    · have hi' : i < l.length := by simpa using hi
      rw [List.getElem_map, List.getElem_map]
      exact (hl2 i hi').2
    · rw [hxx, e1]
      have h3 := bulk_sum (fun _ => 1) D len fun i _ => bulk_one _
      simp only [Rows.uptoBulk]
      have h4 : ∀ n : Nat, ((List.range n).map fun _ => 1).sum = n := fun n => by
        induction n with
        | zero => rfl
        | succ n ih => rw [List.range_succ, List.map_append, List.sum_append, ih]; rfl
      have h4 := h4 len
      omega
/-- Numbers that were handed in. -/
def Nums (w : World) (a : Option Addr) (l : List Int) : Prop := ∀ i (h : i < l.length), ∃ g off, a = some ⟨g, off, none⟩ ∧ w.cell? ⟨g, off + i, none⟩ = some (.int .i64 l[i])
theorem open_nums {H : Type} {enc : TypeId × Value → H} {w : World} {base fuel : Nat} {held : Bool} {v : Value} {x : DataW H × List MemPlace} (hf : DataW.trod enc Tryz.prog w base (fun _ => true) held fuel 22 [v] = some x) :
    ∃ a l cap, v = .slice a l.length cap ∧ Nums w a l ∧ l.length ≤ maxLen ∧ (∀ n ∈ l, (Lit.int .i64 n).wf = true) := by
  rcases open_ints Tryz.underlying22 Tryz.underlying3 (by kernel_rfl) hf with ⟨hcs, _⟩ | ⟨xa, len, c, zs, hcs, _, hl, hm, hz, _, hcell, hwz⟩
  · injection hcs with hcs _
    exact ⟨none, [], 0, hcs, fun i hi => absurd hi (by simp), Nat.zero_le _, fun n hn => by cases hn⟩
  · injection hcs with hcs _
    have hz2 : zs.length = c := by simpa using hz
    have e : (zs.take len).length = len := by rw [List.length_take]; omega
    refine ⟨some xa, zs.take len, c, by rw [e]; exact hcs, fun i hi => ?_, by omega, fun n hn => hwz n (List.mem_of_mem_take hn)⟩
    have hi' : i < zs.length := by rw [e] at hi; omega
    have h1 := hcell i hi'
    have hsp := spot_zero (hcell 0 (by omega))
    obtain ⟨b, off, spot⟩ := xa
    have hspot : spot = none := hsp
    subst hspot
    refine ⟨b, off, rfl, ?_⟩
    rw [Addr.add_mid] at h1
    rw [h1, List.getElem_take]
    simp [hi']
/-- Operations that are done at once, and which files are reaped then. -/
structure Bat where
  a : Option Addr
  c : Nat
  ops : List OpD
  xs : List OpE
  ra : Option Addr
  rc : Nat
  reap : List Int
abbrev Bat.cells (b : Bat) : List Value := [.slice b.a b.ops.length b.c, .slice b.ra b.reap.length b.rc]
structure BatOld (w : World) (b : Bat) : Prop where
  ops : OpsA w b.a b.ops b.xs
  reap : Nums w b.ra b.reap
  few : b.reap.length ≤ maxLen
  wf : ∀ n ∈ b.reap, (Lit.int .i64 n).wf = true
def Bats (w : World) (a : Option Addr) (bs : List Bat) : Prop := ∀ i (h : i < bs.length), (∃ g off, a = some ⟨g, off, none⟩ ∧ w.rangeAt g (off + i * 2) bs[i].cells) ∧ BatOld w bs[i]
def bulkB (bs : List Bat) : Nat := (bs.map fun b => 1 + b.ops.length).sum
theorem sum_range {β : Type} (f : β → Nat) (l : List β) : ((List.range l.length).map fun i => ((l[i]?).map f).getD 0).sum = (l.map f).sum := by
  induction l with
  | nil => rfl
  | cons x r ih =>
    rw [List.length_cons, List.range_succ_eq_map]
    simp only [List.map_cons, List.map_map, List.sum_cons, List.getElem?_cons_zero, Option.map_some, Option.getD_some]
    rw [← ih]
    congr 2
end Go.Proofs.YtlkgmhlaoahdlaaGreatDoor
end

/- ProcNumbers: its arguments, what always holds of the numbers. -/
section
namespace Go.Proofs.YtlkgmhlaoahdlaaGreatDoor
open Go.RowKit Go.WideShapes Go.ChangeShapes
set_option linter.unusedVariables false
set_option linter.unusedSimpArgs false
set_option maxRecDepth 100000

theorem cellsOfAct : Tryz.prog.cellsOf 50 = 4 := by kernel_rfl
theorem cellsOfStrs : Tryz.prog.cellsOf 29 = 1 := by kernel_rfl
/-- Acts that were handed in: what kind of act, and with whom. -/
def ActsA (w : World) (a : Option Addr) (l : List (Int × Int)) : Prop := ∀ i (h : i < l.length), ∃ (g off : Nat) (f : Int) (pa : Option Addr) (pn pc : Nat), a = some ⟨g, off, none⟩ ∧ w.rangeAt g (off + i * 4) [.int .i64 l[i].1, .int .i64 l[i].2, .int .i64 f, .slice pa pn pc]
theorem open_acts {H : Type} {enc : TypeId × Value → H} {w : World} {base fuel : Nat} {held : Bool} {v : Value} {x : DataW H × List MemPlace} (hf : DataW.trod enc Tryz.prog w base (fun _ => true) held fuel 48 [v] = some x) :
    ∃ a l cap, v = .slice a l.length cap ∧ ActsA w a l ∧ l.length ≤ maxLen := by
  rcases Go.Deep.open_slice Tryz.underlying48 hf with ⟨h1, hx⟩ | ⟨ad, len, cp, m, q, D, Pl, h1, hb, hl, hm, hmm, hxx, hx⟩
  · injection h1 with h1 _
    subst h1
    exact ⟨none, [], 0, rfl, fun i hi => absurd hi (by simp), Nat.zero_le _⟩
  · injection h1 with h1 _
    subst h1
    have hsp0 : 0 < len → ad.spot = none := fun h0 => by
      obtain ⟨cs, hc, _⟩ := hx 0 (by rw [hmm]; split <;> omega)
      rw [cellsOfAct] at hc
      exact spot_cells hc (by decide)
    have each : ∀ i < len, ∃ y : Int × Int, ∃ (g off : Nat) (f : Int) (pa : Option Addr) (pn pc : Nat), (some ad) = some ⟨g, off, none⟩ ∧ w.rangeAt g (off + i * 4) [.int .i64 y.1, .int .i64 y.2, .int .i64 f, .slice pa pn pc] := fun i hi => by
      obtain ⟨cs, hc, ht⟩ := hx i (by rw [hmm]; split <;> omega)
      rw [cellsOfAct] at hc
      obtain ⟨b, off, e, hr, hlen⟩ := cells_at hc (hsp0 (by omega))
      obtain ⟨c0, c1, c2, c3, rfl⟩ : ∃ c0 c1 c2 c3, cs = [c0, c1, c2, c3] := by
        match cs, hlen with
        | [c0, c1, c2, c3], _ => exact ⟨c0, c1, c2, c3, rfl⟩
      obtain ⟨y0, y1, y2, y3, n', _, hcl, t0, t1, t2, t3⟩ := Go.Joins.trod_struct4 Tryz.underlying50 ht
      simp only [cellsOfStrs, cellsOfInt, List.drop_zero, List.drop_succ_cons, List.take_succ_cons, List.take_zero] at t0 t1 t2 t3
      obtain ⟨κ, e0, _, w0⟩ := DataW.trod_int Tryz.underlying3 t0
      obtain ⟨π, e1, _, w1⟩ := DataW.trod_int Tryz.underlying3 t1
      obtain ⟨φ, e2, _, w2⟩ := DataW.trod_int Tryz.underlying3 t2
      injection e0 with e0 _; injection e1 with e1 _; injection e2 with e2 _
      subst e0 e1 e2
      obtain ⟨pa, pn, pc, hpv⟩ : ∃ pa pn pc, c3 = .slice pa pn pc := by
        rcases Go.Deep.open_slice Tryz.underlying29 t3 with ⟨k1, _⟩ | ⟨ad3, len3, cp3, _, _, _, _, k1, _⟩
        · injection k1 with k1 _
          exact ⟨_, _, _, k1⟩
        · injection k1 with k1 _
          exact ⟨_, _, _, k1⟩
      subst hpv
      exact ⟨(κ, π), b, off, φ, pa, pn, pc, by rw [e], hr⟩
    obtain ⟨l, hl1, hl2⟩ := choose_list len each
    refine ⟨some ad, l, cp, by rw [hl1], fun i hi => hl2 i hi, by omega⟩
theorem range_laterN {w w' : World} (hb : Below w.heap.size w w') {g off : Nat} {cs : List Value} (hr : w.rangeAt g off cs) : w'.rangeAt g off cs := fun j v hj => by
  have h1 := hr j v hj
  rw [hb.cell (p := ⟨g, off + j, none⟩) (World.block_lt_of_cell? w _ h1)]
  exact h1
theorem ActsA.later {w w' : World} {a : Option Addr} {l : List (Int × Int)} (h : ActsA w a l) (hb : Below w.heap.size w w') : ActsA w' a l := fun i hi => by
  obtain ⟨g, off, f, pa, pn, pc, e, hr⟩ := h i hi
  exact ⟨g, off, f, pa, pn, pc, e, range_laterN hb hr⟩

theorem del_subl {β : Type} [DecidableEq β] {γ : Type} (m : List (β × γ)) (a : β) : (del m a).Sublist m := by
  induction m with
  | nil => exact List.Sublist.refl _
  | cons p r ih =>
    unfold del
    split
    · exact List.sublist_cons_self ..
    · exact ih.cons_cons _
/-- What always holds of the numbers: at most so many have come; none twice; none has files. -/
structure NumOk (k : Nat) (X : VX) (Y : Tab) : Prop where
  last : 0 ≤ Y.last ∧ Y.last ≤ k
  keys : (Y.runs.map (·.1)).Nodup
  each : ∀ p ∈ Y.runs, (1 ≤ p.1 ∧ p.1 ≤ Y.last) ∧ p.2.maps = []
  few : Y.runs.length ≤ k
  held : HeldOk 0 X
theorem NumOk.more {k : Nat} {X : VX} {Y : Tab} (h : NumOk k X Y) : NumOk (k + 1) X Y := ⟨⟨h.last.1, by have := h.last.2; omega⟩, h.keys, h.each, by have := h.few; omega, h.held⟩
theorem NumOk.ends {k : Nat} {X : VX} {Y : Tab} (h : NumOk k X Y) (i : Int) : NumOk (k + 1) X { Y with runs := del Y.runs i } := by
  have hs := del_subl Y.runs i
  exact ⟨⟨h.last.1, by have := h.last.2; show Y.last ≤ _; omega⟩, h.keys.sublist (hs.map _), fun p hp => h.each p (hs.subset hp), by have := h.few; have := hs.length_le; show (del Y.runs i).length ≤ _; omega, h.held⟩
theorem NumOk.forgets {k : Nat} {X : VX} {Y : Tab} (h : NumOk k X Y) : NumOk (k + 1) X { Y with runs := [] } :=
  ⟨⟨h.last.1, by have := h.last.2; show Y.last ≤ _; omega⟩, List.nodup_nil, (fun p hp => nomatch hp), Nat.zero_le _, h.held⟩
theorem NumOk.fresh {k : Nat} {X : VX} {Y : Tab} (h : NumOk k X Y) : look Y.runs (Y.last + 1) = none := by
  cases hl : look Y.runs (Y.last + 1) with
  | none => rfl
  | some p =>
    have := (h.each _ (look_mem hl)).1.2
    dsimp only at this
    omega
theorem NumOk.comes {k : Nat} {X : VX} {Y : Tab} (h : NumOk k X Y) (p : Pr) (hp : p.maps = []) : NumOk (k + 1) X { Y with last := Y.last + 1, runs := put Y.runs (Y.last + 1) p } := by
  have h1 := look_none_key h.fresh
  have h2 := put_new h1 p
  have h3 := h.last
  refine ⟨⟨by show (0 : Int) ≤ Y.last + 1; omega, by show Y.last + 1 ≤ ((k + 1 : Nat) : Int); omega⟩, ?_, ?_, ?_, h.held⟩
  · show ((put Y.runs (Y.last + 1) p).map (·.1)).Nodup
    rw [h2, List.map_append]
    exact List.nodup_append.2 ⟨h.keys, List.nodup_cons.2 ⟨by simp, List.nodup_nil⟩, fun a ha b hb e => h1 (by rw [List.map_singleton, List.mem_singleton] at hb; have e2 : a = Y.last + 1 := e.trans hb; rw [← e2]; exact ha)⟩
  · show ∀ q ∈ put Y.runs (Y.last + 1) p, _
    rw [h2]
    intro q hq
    rcases List.mem_append.1 hq with hq | hq
    · have := h.each q hq
      exact ⟨⟨this.1.1, by show q.1 ≤ Y.last + 1; omega⟩, this.2⟩
    · rw [List.mem_singleton.1 hq]
      exact ⟨⟨by show (1 : Int) ≤ Y.last + 1; omega, by show Y.last + 1 ≤ Y.last + 1; omega⟩, hp⟩
  · show (put Y.runs (Y.last + 1) p).length ≤ k + 1
    rw [h2, List.length_append]
    have := h.few
    simp; omega
/-- The state in which each act begins. -/
def NumSt (w0 : World) (v tb n : Nat) (last i : Value) (wr : World) : Prop :=
  ∃ (k : Nat) (X : VX) (Y : Tab), k ≤ n ∧ i = .int .i64 k ∧ last = .int .i64 Y.last ∧ Y.tb = tb ∧ NumOk k X Y ∧ VT w0 [] [] v X Y wr
end Go.Proofs.YtlkgmhlaoahdlaaGreatDoor
end

/- ProcNumbers: the walk. -/
section
namespace Go.Proofs.YtlkgmhlaoahdlaaGreatDoor
open Go.RowKit
open Go.ChangeMaps (setBlock)
set_option linter.unusedVariables false
set_option linter.unusedSimpArgs false
set_option maxRecDepth 100000

set_option maxHeartbeats 8000000 in
theorem numbers_main (w : World) (hm : Mx w) {a : Option Addr} {c : Nat} (l : List (Int × Int)) (hl : l.length ≤ 100) (hA : ActsA w a l) :
    Calls Tryz.prog 4 #[.slice a l.length c] w fun e w' => e = .returned (.bool true) ∧ Below w.heap.size w w' := by
  have hal := proc_alive w hm
  have hop := fun w1 (h : Mx w1) => popen_any w1 h
  have HA := Lib.hid hA
  have Hm := Lib.hid hm
  clear hm
  have hli : ¬ (100 : Int) < (l.length : Int) := by omega
  go_enter Tryz.func4, Tryz.ntmps4
  go_wp2_with fail
  refine hal.mono ?_
  rintro e w1 ⟨rfl, hb1⟩
  go_wp2_with fail
  refine (hop w1 (Hm.out.later hb1)).mono ?_
  rintro e w2 ⟨v, X, rfl, h1, hE, hH⟩
  have hnw := pnew_any h1
  unfold filesV at hnw
  have HM1 := Lib.hid (Hm.out.later hb1)
  have HA1 := Lib.hid (HA.out.later hb1)
  have HB1 := Lib.hid hb1
  clear hop hal h1 hb1 hA
  go_wp2_with fail
  refine hnw.mono ?_
  rintro e w3 ⟨Y, rfl, hY1, hY2, h3⟩
  have Hst := Lib.hid (show NumSt w1 v Y.tb l.length (.int .i64 0) (.int .i64 0) w3 from ⟨0, X, Y, Nat.zero_le _, rfl, by rw [hY1], rfl, ⟨by rw [hY1]; exact ⟨Int.le_refl 0, Int.le_refl 0⟩, by rw [hY2]; exact List.nodup_nil, (by rw [hY2]; exact fun p hp => nomatch hp), by rw [hY2]; exact Nat.zero_le _, ⟨by rw [hH]; exact List.nodup_nil, fun i => by rw [hH]; exact ⟨Int.le_refl 0, Int.le_refl 0⟩⟩⟩, h3⟩)
  generalize Y.tb = tb at *
  clear hnw h3 hY1 hY2 hE hH
  go_wp2_with fail
  clear hli
  go_loopw [5, 22] (fun last i wr => NumSt w1 v tb l.length last i wr) (fun _ i _ => l.length - (intOf i).toNat)
  case atStart => exact Hst.out
  case round =>
    clear Hst
    obtain ⟨k, X, Y, hk, rfl, rfl, rfl, hN, hV⟩ := hrel
    by_cases hlt : k < l.length
    · obtain ⟨g, off, f, pa, pn, pc, rfl, hr⟩ := HA1.out.later hV.below k hlt
      have c0 := hr 0 _ rfl
      have c1 := hr 1 _ rfl
      have c2 := hr 2 _ rfl
      have c3 := hr 3 _ rfl
      rw [Nat.add_zero] at c0
      have hkl : (k : Int) ≤ 100 := by omega
      have HN := Lib.hid hN
      have hV1 := hV.later ((Below.refl _ wr).alloc (Nat.le_refl _) (Obj.cells #[Value.int .i64 l[k].1, Value.int .i64 l[k].2, Value.int .i64 f, Value.slice pa pn pc] 50))
      have HV := Lib.hid hV1
      have HL := Lib.hid hlt
      clear hN hV hr hV1
      generalize l[k].1 = κ at *
      generalize l[k].2 = π at *
      obtain ⟨tb, mb, last, runs⟩ := Y
      dsimp only at *
      obtain ⟨m, hm⟩ : ∃ m, bits .and .i64 κ 3 = m := ⟨_, rfl⟩
      by_cases h0 : m = 0
      · subst h0
        cases hlk : look runs π with
        | none =>
          have hc := exit_no HV.out π hlk
          dsimp only at hc
          clear hlk
          go_wp2_with fail
          refine hc.mono ?_
          rintro e w5 ⟨rfl, h5⟩
          have HR := Lib.hid (show ∀ i, i = .int .i64 ((k + 1 : Nat) : Int) → NumSt w1 v tb l.length (.int .i64 last) i w5 from fun i hi => ⟨k + 1, X, ⟨tb, mb, last, runs⟩, HL.out, hi, rfl, rfl, HN.out.more, h5⟩)
          clear hc h5 c0 c1 c2 c3
          go_wp2_with fail
          go_roundw
          case rel => exact HR.out _ (by go_num)
          case measure => have := HL.out; simp [intOf]; omega
        | some p =>
          have hmp : p.maps = [] := (HN.out.each _ (look_mem hlk)).2
          have hc := exit_yes (Y := ⟨tb, mb, last, runs⟩) HV.out HN.out.keys HN.out.held (by omega) π hlk (by rw [hmp]; exact Nat.zero_le _)
          rw [hmp] at hc
          dsimp only at hc
          clear hlk hmp
          go_wp2_with fail
          refine hc.mono ?_
          rintro e w5 ⟨rfl, h5⟩
          have HR := Lib.hid (show ∀ i, i = .int .i64 ((k + 1 : Nat) : Int) → NumSt w1 v tb l.length (.int .i64 last) i w5 from fun i hi => ⟨k + 1, X, _, HL.out, hi, rfl, rfl, HN.out.ends π, h5⟩)
          clear hc h5 c0 c1 c2 c3
          go_wp2_with fail
          go_roundw
          case rel => exact HR.out _ (by go_num)
          case measure => have := HL.out; simp [intOf]; omega
      · by_cases h1 : m = 1
        · subst h1
          have hc := reset_same HV.out
          unfold filesV at hc
          dsimp only at hc
          go_wp2_with fail
          refine hc.mono ?_
          rintro e w5 ⟨rfl, h5⟩
          have HR := Lib.hid (show ∀ i, i = .int .i64 ((k + 1 : Nat) : Int) → NumSt w1 v tb l.length (.int .i64 last) i w5 from fun i hi => ⟨k + 1, X, _, HL.out, hi, rfl, rfl, HN.out.forgets, h5⟩)
          clear hc h5 c0 c1 c2 c3
          go_wp2_with fail
          go_roundw
          case rel => exact HR.out _ (by go_num)
          case measure => have := HL.out; simp [intOf]; omega
        · have g0 : (m == 0) = false := by simpa using h0
          have g1 : (m == 1) = false := by simpa using h1
          have hfew : runs.length ≤ k := HN.out.few
          have hls := plist_any (Y := ⟨tb, mb, last, runs⟩) HV.out HN.out.keys (fun p hp => by
            have := (HN.out.each p hp).1
            have h3 := HN.out.last.2
            dsimp only at this h3
            omega) (by show runs.length ≤ 1000000; omega)
          dsimp only at hls
          clear h0 h1
          go_wp2_with fail
          refine hls.mono ?_
          rintro e w5 ⟨lv, ss, rfl, hpm, hrow, hb5⟩
          have hsl : ss.length = runs.length := by rw [hpm.length_eq, List.length_map]
          obtain ⟨la, lc, rfl⟩ := owned_form hrow
          rw [hsl]
          have h5 := HV.out.later hb5
          have HV5 := Lib.hid h5
          clear hls hpm hrow hb5 hsl h5 c0 c1 c2 c3
          by_cases h32 : runs.length < 32
          · have hsp : Calls Tryz.prog 8 #[.pointer (some ⟨tb, 0, none⟩), .string ⟨#[117]⟩, .slice none 0 0] w5 fun e w' => e = .returned (.tuple #[.int .i64 (last + 1), .int .i64 0]) ∧ ∃ b fv, VT w1 [] [] v X { (⟨tb, mb, last, runs⟩ : Tab) with last := last + 1, runs := put runs (last + 1) ⟨b, ⟨#[117]⟩, fv, [], false⟩ } w' :=
              spawn_yes (Y := ⟨tb, mb, last, runs⟩) HV5.out HM1.out HN.out.held ⟨#[117]⟩ none [] 0 (by decide) (fun p hp => nomatch hp) (fun w' X' _ i hi => absurd hi (by simp)) (by decide) h32 rfl (by
                have := HN.out.last
                dsimp only at this ⊢
                omega) HN.out.fresh
            have hlb := HN.out.last
            dsimp only at hlb
            obtain ⟨hlb1, hlb2⟩ := hlb
            have g3 : decide ((runs.length : Int) < 32) = true := decide_eq_true (by omega)
            go_wp2_with fail
            refine hsp.mono ?_
            rintro e w6 ⟨rfl, b, fv, h6⟩
            have HR := Lib.hid (show ∀ i, i = .int .i64 ((k + 1 : Nat) : Int) → NumSt w1 v tb l.length (.int .i64 (last + 1)) i w6 from fun i hi => ⟨k + 1, X, _, HL.out, hi, rfl, rfl, HN.out.comes _ rfl, h6⟩)
            clear hsp h6
            go_wp2_with fail
            go_roundw
            case rel => exact HR.out _ (by go_num)
            case measure => have := HL.out; simp [intOf]; omega
          · have hsp : Calls Tryz.prog 8 #[.pointer (some ⟨tb, 0, none⟩), .string ⟨#[117]⟩, .slice none 0 0] w5 fun e w' => e = .returned (.tuple #[.int .i64 0, .int .i64 7]) ∧ VT w1 [] [] v X ⟨tb, mb, last, runs⟩ w' :=
              spawn_full (Y := ⟨tb, mb, last, runs⟩) HV5.out ⟨#[117]⟩ none 0 0 (by decide) (by show 32 ≤ runs.length; omega)
            have g3 : decide ((runs.length : Int) < 32) = false := decide_eq_false (by omega)
            go_wp2_with fail
            refine hsp.mono ?_
            rintro e w6 ⟨rfl, h6⟩
            have HR := Lib.hid (show ∀ i, i = .int .i64 ((k + 1 : Nat) : Int) → NumSt w1 v tb l.length (.int .i64 last) i w6 from fun i hi => ⟨k + 1, X, _, HL.out, hi, rfl, rfl, HN.out.more, h6⟩)
            clear hsp h6
            go_wp2_with fail
            go_roundw
            case rel => exact HR.out _ (by go_num)
            case measure => have := HL.out; simp [intOf]; omega
    · have hge : ¬ (k : Int) < (l.length : Int) := by omega
      have HB := Lib.hid (HB1.out.trans (hV.below.mono HB1.out.size))
      obtain rfl : k = l.length := by omega
      clear hN hV
      go_wp2_with fail
      go_ret
      exact ⟨rfl, HB.out⟩
theorem numbers_law (w : World) (hm : Mx w) {a : Option Addr} {c : Nat} (l : List (Int × Int)) (hA : ActsA w a l) :
    Calls Tryz.prog 4 #[.slice a l.length c] w fun e w' => e = .returned (.bool true) ∧ Below w.heap.size w w' := by
  by_cases hl : l.length ≤ 100
  · exact numbers_main w hm l hl hA
  · have hal := proc_alive w hm
    have hli : (100 : Int) < (l.length : Int) := by omega
    clear hA hm
    go_enter Tryz.func4, Tryz.ntmps4
    go_wp2_with fail
    refine hal.mono ?_
    rintro e w1 ⟨rfl, hb1⟩
    go_wp2_with fail
    go_ret
    exact ⟨rfl, hb1⟩
end Go.Proofs.YtlkgmhlaoahdlaaGreatDoor
end

/- The world's shape gives the library's own bound. -/
section
namespace Go.Proofs.YtlkgmhlaoahdlaaGreatDoor
open Go.RowKit
theorem mx_of {W : World} (h : W.ShapedOpen Tryz.prog) : Mx W := by
  obtain ⟨m, hm⟩ : ∃ m, W.cell? ⟨0, 0, none⟩ = some (.int .i64 m) := cell_of_shapedOpen_int (zero := #[.int .i64 0]) (t := 3) (k := .i64) h (of_decide_eq_true (by kernel_rfl)) (by kernel_rfl) rfl (by kernel_rfl) (by kernel_rfl) (by kernel_rfl)
  exact ⟨World.block_lt_of_cell? W _ hm, m, hm⟩
end Go.Proofs.YtlkgmhlaoahdlaaGreatDoor
end
