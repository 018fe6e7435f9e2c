/- Texts one behind the other, each in a section of its own: what calls make of memory, step by step. -/
import Derived.Test.YtfffkgbnjakhnaaGreatDoorPackNeedNone17
import Derived.Shelf.Vars

/- Law 17's example comes out true. -/
section
namespace Go.Proofs.YtfffkgbnjakhnaaGreatDoor
open Go.RowKit
open Go.ChangeMaps (setBlock)
set_option linter.unusedVariables false
set_option linter.unusedSimpArgs false
set_option maxRecDepth 100000

theorem row_first {W0 : Base} {w : World} {v : Value} {n : Nm} {L : List Rw} (h : Own W0 w (rowSs v [n] :: L)) : ∃ g c, v = .slice (some ⟨g, 0, none⟩) 1 c ∧ 1 ≤ c ∧ w.cell? ⟨g, 0, none⟩ = some (.string (toB n)) := by
  have h' : Own W0 w (⟨9, 1, v, 1, [.string (toB n)]⟩ :: L) := h
  obtain ⟨g, cap, e, _, _, hc, _⟩ := Own.form (h := h') (by decide)
  subst e
  exact ⟨g, cap, rfl, hc, Own.cell (h := h') 0 (by decide)⟩
theorem ops2 (w : World) (p q : Nm) : Own w (w.alloc (.cells #[.int .i64 2, .string (toB p), .string ⟨#[]⟩, .slice none 0 0, .int .i64 5, .string (toB p), .string (toB q), .slice none 0 0] 63)) [rowO (.slice (some ⟨w.heap.size, 0, none⟩) 2 2) (opsT [(2, p, []), (5, p, q)])] :=
  (Own.start w).made 63 4 #[.int .i64 2, .string (toB p), .string ⟨#[]⟩, .slice none 0 0, .int .i64 5, .string (toB p), .string (toB q), .slice none 0 0] 2 rfl (by unfold maxLen; decide)
set_option maxHeartbeats 16000000 in
theorem alive17 (w : World) (hm : Mx w) : Calls Tryz.prog 28 #[] w fun e w' => e = .returned (.bool true) ∧ Below w.heap.size w w' := by
  have hop := open17 w hm
  have HM := Lib.hid hm
  clear hm
  go_enter Tryz.func28, Tryz.ntmps28
  go_wp2_with fail
  refine hop.mono ?_
  rintro e w1 ⟨v, mb, tb, g, rfl, h1⟩
  have k1 : Calls Tryz.prog 14 #[.pointer (some ⟨mb, 0, none⟩), .string ⟨#[117]⟩] w1 fun e w' => e = .returned (.int .i64 0) ∧ MgAt w v mb tb g usN (ordU usN) 2 VA1 w' := by
    have := start_at h1 HM.out (by decide) shortN [117] (by decide)
    rw [va1] at this
    exact this
  clear hop h1
  go_wp2_with fail
  refine k1.mono ?_
  rintro e w2 ⟨rfl, h2⟩
  have k2 : Calls Tryz.prog 14 #[.pointer (some ⟨mb, 0, none⟩), .string ⟨#[118]⟩] w2 fun e w' => e = .returned (.int .i64 0) ∧ MgAt w v mb tb g usN (ordU usN) 4 VA2 w' := by
    have := start_at h2 HM.out (by decide) shortN [118] (by decide)
    rw [va2] at this
    exact this
  clear k1 h2
  go_wp2_with fail
  refine k2.mono ?_
  rintro e w3 ⟨rfl, h3⟩
  have k3 := hit_at h3 HM.out (by decide) nd2
  rw [hit2] at k3
  have H3 := Lib.hid h3
  clear k2 h3
  go_wp2_with fail
  refine k3.mono ?_
  rintro e w4 ⟨v4, rfl, hO4⟩
  obtain ⟨a4, c4, hv4, _, _⟩ := Own.sized (h := (show Own w3 w4 (⟨9, 1, v4, 0, []⟩ :: []) from hO4))
  subst hv4
  have h4 := H3.out.later hO4.below
  have k4 : Calls Tryz.prog 26 #[.pointer (some ⟨v, 0, none⟩), .slice (some ⟨w4.heap.size, 0, none⟩) 2 2] (w4.alloc (.cells #[.int .i64 2, .string ⟨#[47, 110, 101, 119]⟩, .string ⟨#[]⟩, .slice none 0 0, .int .i64 5, .string ⟨#[47, 110, 101, 119]⟩, .string ⟨#[47, 99]⟩, .slice none 0 0] 63)) fun e w' => e = .returned (.int .i64 0) ∧ MgAt w v mb tb g usN (ordU usN) 4 VA3 w' :=
    mdo_at h4 HM.out (ts := tsC) (ops2 w4 [47, 110, 101, 119] [47, 99]) tsC_ok 2 va3 (by decide) (by decide) (by decide) (by decide)
  clear k3 hO4 h4 H3
  go_wp2_with fail
  refine k4.mono ?_
  rintro e w5 ⟨rfl, h5⟩
  have k5 := hit_at h5 HM.out (by decide) nd3
  rw [hit3] at k5
  have H5 := Lib.hid h5
  clear k4 h5
  go_wp2_with fail
  refine k5.mono ?_
  rintro e w6 ⟨v6, rfl, hO6⟩
  have h6 := H5.out.later hO6.below
  obtain ⟨g6, c6, hv6, hc6, hcell⟩ := row_first hO6
  have hcell : w6.cell? ⟨g6, 0, none⟩ = some (.string ⟨#[118]⟩) := hcell
  subst hv6
  have k6 : Calls Tryz.prog 33 #[.pointer (some ⟨v, 0, none⟩), .pointer (some ⟨mb, 0, none⟩), .string ⟨#[118]⟩] w6 fun e w' => e = .returned (.bool true) ∧ Below w6.heap.size w6 w' := by
    have := of_at h6 HM.out [118] (nd3.same _) (nd3.few _) (nd3.short _)
    rw [of3.2.1] at this
    exact this
  have H6 := Lib.hid h6
  clear k5 hO6 h6 H5
  go_wp2_with fail
  refine k6.mono ?_
  rintro e w7 ⟨rfl, hb7⟩
  have h7 := H6.out.later hb7
  have k7 : Calls Tryz.prog 33 #[.pointer (some ⟨v, 0, none⟩), .pointer (some ⟨mb, 0, none⟩), .string ⟨#[120]⟩] w7 fun e w' => e = .returned (.bool false) ∧ Below w7.heap.size w7 w' := by
    have := of_at h7 HM.out [120] (nd3.same _) (nd3.few _) (nd3.short _)
    rw [of3.2.2] at this
    exact this
  have H7 := Lib.hid h7
  clear k6 hb7 h7 H6 hcell
  go_wp2_with fail
  refine k7.mono ?_
  rintro e w8 ⟨rfl, hb8⟩
  have h8 := H7.out.later hb8
  have k8 : Calls Tryz.prog 72 #[.pointer (some ⟨v, 0, none⟩), .string ⟨#[47, 99]⟩, .int .i64 4] w8 fun e w' => e = .returned (.bool true) ∧ Below w8.heap.size w8 w' := by
    have := stale_at h8 HM.out [47, 99] (by decide) 4
    rw [st3.1] at this
    exact this
  have H8 := Lib.hid h8
  clear k7 hb8 h8 H7
  go_wp2_with fail
  refine k8.mono ?_
  rintro e w9 ⟨rfl, hb9⟩
  have h9 := H8.out.later hb9
  have k9 : Calls Tryz.prog 72 #[.pointer (some ⟨v, 0, none⟩), .string ⟨#[47, 97]⟩, .int .i64 2] w9 fun e w' => e = .returned (.bool false) ∧ Below w9.heap.size w9 w' := by
    have := stale_at h9 HM.out [47, 97] (by decide) 2
    rw [st3.2] at this
    exact this
  have H9 := Lib.hid h9
  clear k8 hb9 h9 H8
  go_wp2_with fail
  refine k9.mono ?_
  rintro e w10 ⟨rfl, hb10⟩
  have HF := Lib.hid (H9.out.later hb10).below
  clear k9 hb10 H9
  go_wp2_with fail
  go_ret
  exact ⟨rfl, HF.out⟩
end Go.Proofs.YtfffkgbnjakhnaaGreatDoor
end

/- NeedNone's states, plain: which units start ahead, which behind, whether the file is put back. -/
section
namespace Go.Proofs.YtfffkgbnjakhnaaGreatDoor
open Go.RowKit
open Go.ChangeMaps (setBlock)
set_option linter.unusedVariables false
set_option linter.unusedSimpArgs false
set_option maxRecDepth 100000

abbrev Q4 : Type := Bool × Bool × Bool × Bool
def bq (q : Q4) : Nat → Bool
  | 0 => q.1
  | 1 => q.2.1
  | 2 => q.2.2.1
  | _ => q.2.2.2
def nm4 : Nat → Nm
  | 0 => [117]
  | 1 => [118]
  | 2 => [119]
  | _ => [120]
def tsL : List (Int × Nm × Nm) := [(4, [47, 97], [47, 111, 108, 100]), (2, [47, 110, 101, 119], []), (5, [47, 110, 101, 119], [47, 97])]
def tsB : List (Int × Nm × Nm) := [(5, [47, 111, 108, 100], [47, 97])]
theorem tsL_ok : TsOk tsL := ⟨by decide, by decide, by decide, by decide⟩
theorem tsB_ok : TsOk tsB := ⟨by decide, by decide, by decide, by decide⟩
def VS (q : Q4) : Nat → MV
  | 0 => VN
  | k + 1 => if bq q k then (startV usN (VS q k) (nm4 k)).2 else VS q k
def VD (q : Q4) : MV := doV (VS q 4) tsL
def VR (q : Q4) : Nat → MV
  | 0 => VD q
  | k + 1 => if bq q k then VR q k else (startV usN (VR q k) (nm4 k)).2
def VB (q : Q4) (back : Bool) : MV := if back then doV (VR q 4) tsB else VR q 4
/-- What is asked of states, as a test. -/
def ndB (V : MV) : Bool := (look V.runs 0).isNone && V.mr.all fun p => (mapsV V p.2.pid).length == p.2.files.length && decide (p.2.files.length ≤ 1000) && p.2.files.all fun f => decide (f.length ≤ 1000000)
theorem ndB_ok {V : MV} (h : ndB V = true) : NdOk V := by
  unfold ndB at h
  rw [Bool.and_eq_true] at h
  refine ndok_of (by simpa using h.1) fun p hp => ?_
  have h2 := List.all_eq_true.1 h.2 p hp
  simp only [Bool.and_eq_true, beq_iff_eq, decide_eq_true_eq, List.all_eq_true] at h2
  exact ⟨h2.1.1, h2.1.2, h2.2⟩
def budB (V : MV) (ts : List (Int × Nm × Nm)) : Bool := decide ((DoE V.E (xsT ts)).1 = 0) && decide (V.bud.1 + ts.length ≤ 100000) && decide (lenT ts ≤ 4096) && decide (V.bud.2.1 + roomM (lenT ts) ≤ V.bud.2.2.1) && decide (V.bud.2.2.2 ≤ 1000000000)
theorem budB_ok {V : MV} {ts : List (Int × Nm × Nm)} (h : budB V ts = true) : (DoE V.E (xsT ts)).1 = 0 ∧ V.bud.1 + ts.length ≤ 100000 ∧ lenT ts ≤ 4096 ∧ V.bud.2.1 + roomM (lenT ts) ≤ V.bud.2.2.1 ∧ V.bud.2.2.2 ≤ 1000000000 := by
  unfold budB at h
  simp only [Bool.and_eq_true, decide_eq_true_eq] at h
  exact ⟨h.1.1.1.1, h.1.1.1.2, h.1.1.2, h.1.2, h.2⟩
def chkS (q : Q4) (k : Nat) : Bool := !bq q k || decide ((startV usN (VS q k) (nm4 k)).1 = 0)
def chkR (q : Q4) (k : Nat) : Bool := ndB (VR q k) && (bq q k || (!ofN (VR q k) (nm4 k) && decide ((startV usN (VR q k) (nm4 k)).1 = 0)))
def chkB (q : Q4) (back : Bool) (k : Nat) : Bool := ofN (VB q back) (nm4 k) == ((k == 0 || k == 2) && (bq q k != back))
def chk (q : Q4) : Bool :=
  chkS q 0 && chkS q 1 && chkS q 2 && chkS q 3 && ndB (VS q 4) && (hitV (VS q 4)).isEmpty && budB (VS q 4) tsL &&
  (chkR q 0 && chkR q 1 && chkR q 2 && chkR q 3) && budB (VR q 4) tsB && ndB (VB q true) && ndB (VB q false) &&
  (chkB q true 0 && chkB q true 1 && chkB q true 2 && chkB q true 3) && (chkB q false 0 && chkB q false 1 && chkB q false 2 && chkB q false 3)
theorem chk_all : ∀ q : Q4, chk q = true := by
  rintro ⟨a, b, c, d⟩
  cases a <;> cases b <;> cases c <;> cases d <;> decide +kernel
theorem lt4 {k : Nat} (h : k < 4) : k = 0 ∨ k = 1 ∨ k = 2 ∨ k = 3 := by omega
theorem vs_start (q : Q4) (k : Nat) (hk : k < 4) (hb : bq q k = true) : (startV usN (VS q k) (nm4 k)).1 = 0 := by
  have h := chk_all q
  unfold chk at h
  simp only [Bool.and_eq_true] at h
  have h1 : chkS q k = true := by
    rcases lt4 hk with rfl | rfl | rfl | rfl
    · exact h.1.1.1.1.1.1.1.1.1.1.1.1
    · exact h.1.1.1.1.1.1.1.1.1.1.1.2
    · exact h.1.1.1.1.1.1.1.1.1.1.2
    · exact h.1.1.1.1.1.1.1.1.1.2
  unfold chkS at h1
  rw [hb] at h1
  simpa using h1
theorem vs_end (q : Q4) : NdOk (VS q 4) ∧ hitV (VS q 4) = [] ∧ budB (VS q 4) tsL = true := by
  have h := chk_all q
  unfold chk at h
  simp only [Bool.and_eq_true] at h
  exact ⟨ndB_ok h.1.1.1.1.1.1.1.1.2, List.isEmpty_iff.1 h.1.1.1.1.1.1.1.2, h.1.1.1.1.1.1.2⟩
theorem vr_start (q : Q4) (k : Nat) (hk : k < 4) : NdOk (VR q k) ∧ (bq q k = false → ofN (VR q k) (nm4 k) = false ∧ (startV usN (VR q k) (nm4 k)).1 = 0) := by
  have h := chk_all q
  unfold chk at h
  simp only [Bool.and_eq_true] at h
  have h1 : chkR q k = true := by
    rcases lt4 hk with rfl | rfl | rfl | rfl
    · exact h.1.1.1.1.1.2.1.1.1
    · exact h.1.1.1.1.1.2.1.1.2
    · exact h.1.1.1.1.1.2.1.2
    · exact h.1.1.1.1.1.2.2
  unfold chkR at h1
  rw [Bool.and_eq_true] at h1
  refine ⟨ndB_ok h1.1, fun hb => ?_⟩
  have h2 := h1.2
  rw [hb] at h2
  simpa using h2
theorem vr_end (q : Q4) : budB (VR q 4) tsB = true := by
  have h := chk_all q
  unfold chk at h
  simp only [Bool.and_eq_true] at h
  exact h.1.1.1.1.2
theorem vb_all (q : Q4) (back : Bool) : NdOk (VB q back) ∧ ∀ k < 4, ofN (VB q back) (nm4 k) = ((k == 0 || k == 2) && (bq q k != back)) := by
  have h := chk_all q
  unfold chk at h
  simp only [Bool.and_eq_true] at h
  cases back with
  | true =>
    refine ⟨ndB_ok h.1.1.1.2, fun k hk => ?_⟩
    have h1 : chkB q true k = true := by
      rcases lt4 hk with rfl | rfl | rfl | rfl
      · exact h.1.2.1.1.1
      · exact h.1.2.1.1.2
      · exact h.1.2.1.2
      · exact h.1.2.2
    exact beq_iff_eq.1 h1
  | false =>
    refine ⟨ndB_ok h.1.1.2, fun k hk => ?_⟩
    have h1 : chkB q false k = true := by
      rcases lt4 hk with rfl | rfl | rfl | rfl
      · exact h.2.1.1.1
      · exact h.2.1.1.2
      · exact h.2.1.2
      · exact h.2.2
    exact beq_iff_eq.1 h1
end Go.Proofs.YtfffkgbnjakhnaaGreatDoor
end

/- Rows beside a manager; the lowest bit of a number's part. -/
section
namespace Go.Proofs.YtfffkgbnjakhnaaGreatDoor
open Go.RowKit
open Go.ChangeMaps (setBlock)
set_option linter.unusedVariables false
set_option linter.unusedSimpArgs false
set_option maxRecDepth 100000

section
variable {w0 w w1 : World} {v mb tb gb N : Nat} {us : List GU} {ord : OrdX} {V : MV} {S : Blocks} {L : List Rw}
theorem MgAt.push (h : MgAt w0 v mb tb gb us ord N V w) (k : Own ⟨w, S⟩ w1 L) : MgAt w0 v mb tb gb us ⟨ord.ord, L ++ ord.ex⟩ N V w1 := by
  obtain ⟨K, L0, X, Y, M, h1, h2, h3, h4, h5, h6, h7⟩ := h
  refine ⟨S ++ K, L ++ L0, X, Y, M, h1.join k, h2, h3, h4, h5, ⟨h6.1.mono (fun m hm => List.mem_append_right _ hm) (fun r hr => List.mem_append_right _ hr), fun r hr => ?_⟩, h7⟩
  rcases List.mem_append.1 hr with hr | hr
  · exact List.mem_append_left _ hr
  · exact List.mem_append_right _ (h6.2 r hr)
theorem MgAt.sts (h : MgAt w0 v mb tb gb us ord N V w) {hv : Value} {fs : List Nm} (hr : rowSs hv fs ∈ ord.ex) : Sts w hv fs := by
  obtain ⟨K, L0, X, Y, M, h1, h2, h3, h4, h5, h6, h7⟩ := h
  exact h1.sts (h6.2 _ hr)
end
def all4 : List Nm := [[117], [118], [119], [120]]
theorem all4_at (k : Nat) (hk : k < 4) : ∃ h : k < all4.length, all4[k] = nm4 k := by
  rcases lt4 hk with rfl | rfl | rfl | rfl <;> exact ⟨by decide, rfl⟩
theorem all4_cell {w : World} {g : Nat} (h : Sts w (.slice (some ⟨g, 0, none⟩) 4 4) all4) (k : Nat) (hk : k < 4) : w.cell? ⟨g, k, none⟩ = some (.string (toB (nm4 k))) := by
  obtain ⟨hkl, hat⟩ := all4_at k hk
  obtain ⟨a', c', e, _, _, g1⟩ := h
  obtain ⟨b, o, h1, _, g3⟩ := g1 (by decide)
  injection e with e1 e2 e3
  rw [h1] at e1
  injection e1 with e1
  injection e1 with e4 e5
  have := g3 k hkl
  rw [← e4, ← e5, Nat.zero_add, hat] at this
  exact this
theorem i64_and1 (n : Int) : bits .and .i64 n 1 = n % 2 := by
  have h3 : (BitVec.ofInt 64 1).toNat = 2 ^ 1 - 1 := by decide
  have key : (BitVec.ofInt 64 n &&& BitVec.ofInt 64 1).toNat = (n % ((2 ^ 64 : Nat) : Int)).toNat % 2 ^ 1 := by
    rw [BitVec.toNat_and, BitVec.toNat_ofInt, h3, Nat.and_two_pow_sub_one_eq_mod]
  show IntKind.i64.wrap ((BitVec.ofInt 64 n &&& BitVec.ofInt 64 1).toNat : Nat) = n % 2
  rw [key, IntKind.wrap_i64]
  omega
/-- Which of the four units start ahead. -/
def btq (x : Int) (k : Nat) : Bool := x / 2 ^ k % 2 == 1
def qx (x : Int) : Q4 := (btq x 0, btq x 1, btq x 2, btq x 3)
theorem bq_qx (x : Int) (k : Nat) (hk : k < 4) : bq (qx x) k = btq x k := by
  rcases lt4 hk with rfl | rfl | rfl | rfl <;> rfl
theorem bit_one {x : Int} {k : Nat} (h : btq x k = true) : bits .and .i64 (x / 2 ^ k) 1 = 1 := by
  rw [i64_and1]
  simpa [btq] using h
theorem bit_zero {x : Int} {k : Nat} (h : btq x k = false) : bits .and .i64 (x / 2 ^ k) 1 = 0 := by
  rw [i64_and1]
  have : ¬ x / 2 ^ k % 2 = 1 := by simpa [btq] using h
  omega
end Go.Proofs.YtfffkgbnjakhnaaGreatDoor
end

/- NeedNone: the walk. -/
section
namespace Go.Proofs.YtfffkgbnjakhnaaGreatDoor
open Go.RowKit
open Go.ChangeMaps (setBlock)
set_option linter.unusedVariables false
set_option linter.unusedSimpArgs false
set_option maxRecDepth 100000

abbrev MgX (w0 : World) (v mb tb g nb N : Nat) (V : MV) (w : World) : Prop := MgAt w0 v mb tb g usN ⟨ordU usN, [rowSs (.slice (some ⟨nb, 0, none⟩) 4 4) all4]⟩ N V w
theorem MgX.cell {w0 w : World} {v mb tb g nb N : Nat} {V : MV} (h : MgX w0 v mb tb g nb N V w) (k : Nat) (hk : k < 4) : w.cell? ⟨nb, k, none⟩ = some (.string (toB (nm4 k))) := all4_cell (h.sts (List.mem_cons_self ..)) k hk
def NoneR (w1 : World) (v mb tb g nb : Nat) (VV : Nat → MV) (N : Nat) (s i : Value) (wr : World) : Prop := s = .bool false ∧ ∃ k : Nat, i = .int .i64 k ∧ k ≤ 4 ∧ MgX w1 v mb tb g nb (N + 2 * k) (VV k) wr
def NoneE (w1 : World) (v mb tb g nb : Nat) (V : MV) (s i : Value) (wr : World) : Prop := s = .bool false ∧ ∃ k : Nat, i = .int .i64 k ∧ k ≤ 4 ∧ MgX w1 v mb tb g nb 16 V wr
theorem has4 (k : Nat) (hk : k < 4) : ∃ c1 c2 : Bool, ((toB (nm4 k)).toList == [117]) = c1 ∧ ((toB (nm4 k)).toList == [119]) = c2 ∧ (c1 || c2) = (k == 0 || k == 2) := by
  have e : (toB (nm4 k)).toList = nm4 k := by rw [ByteArray.toList_eq]
  rw [e]
  rcases lt4 hk with rfl | rfl | rfl | rfl <;> exact ⟨_, _, rfl, rfl, by decide⟩
theorem opsL (w : World) : Own w (w.alloc (.cells #[.int .i64 4, .string ⟨#[47, 97]⟩, .string ⟨#[47, 111, 108, 100]⟩, .slice none 0 0, .int .i64 2, .string ⟨#[47, 110, 101, 119]⟩, .string ⟨#[]⟩, .slice none 0 0, .int .i64 5, .string ⟨#[47, 110, 101, 119]⟩, .string ⟨#[47, 97]⟩, .slice none 0 0] 63)) [rowO (.slice (some ⟨w.heap.size, 0, none⟩) 3 3) (opsT tsL)] :=
  (Own.start w).made 63 4 #[.int .i64 4, .string ⟨#[47, 97]⟩, .string ⟨#[47, 111, 108, 100]⟩, .slice none 0 0, .int .i64 2, .string ⟨#[47, 110, 101, 119]⟩, .string ⟨#[]⟩, .slice none 0 0, .int .i64 5, .string ⟨#[47, 110, 101, 119]⟩, .string ⟨#[47, 97]⟩, .slice none 0 0] 3 rfl (by unfold maxLen; decide)
theorem opsB (w : World) : Own w (w.alloc (.cells #[.int .i64 5, .string ⟨#[47, 111, 108, 100]⟩, .string ⟨#[47, 97]⟩, .slice none 0 0] 63)) [rowO (.slice (some ⟨w.heap.size, 0, none⟩) 1 1) (opsT tsB)] :=
  (Own.start w).made 63 4 #[.int .i64 5, .string ⟨#[47, 111, 108, 100]⟩, .string ⟨#[47, 97]⟩, .slice none 0 0] 1 rfl (by unfold maxLen; decide)
set_option maxHeartbeats 16000000 in
theorem none_law17 (x : Int) (back : Bool) (w : World) (hm : Mx w) : Calls Tryz.prog 5 #[.int .i64 x, .bool back] w fun e w' => e = .returned (.bool true) ∧ Below w.heap.size w w' := by
  have hal := alive17 w hm
  have HM := Lib.hid hm
  clear hm
  go_enter Tryz.func5, Tryz.ntmps5
  go_wp2_with fail
  refine hal.mono ?_
  rintro e w1 ⟨rfl, hb1⟩
  have HB1 := Lib.hid hb1
  have HM1 := Lib.hid (HM.out.later hb1)
  have hop := open17 w1 HM1.out
  clear hal hb1
  go_wp2_with fail
  refine hop.mono ?_
  rintro e w2 ⟨v, mb, tb, g, rfl, h2⟩
  have hO := (Own.start w2).made 9 1 #[.string ⟨#[117]⟩, .string ⟨#[118]⟩, .string ⟨#[119]⟩, .string ⟨#[120]⟩] 4 rfl (by unfold maxLen; decide)
  have H3 := Lib.hid (show MgX w1 v mb tb g w2.heap.size 0 VN _ from h2.push (S := []) (L := [rowSs (.slice (some ⟨w2.heap.size, 0, none⟩) 4 4) all4]) hO)
  clear hop h2 hO
  go_wp2_with fail
  generalize w2.heap.size = nb at *
  generalize w2.alloc (.cells #[.string ⟨#[117]⟩, .string ⟨#[118]⟩, .string ⟨#[119]⟩, .string ⟨#[120]⟩] 9) = w3 at *
  obtain ⟨q, hq⟩ : ∃ q, q = qx x := ⟨_, rfl⟩
  go_loopw [4, 24] (fun s i wr => NoneR w1 v mb tb g nb (VS q) 0 s i wr) (fun _ i _ => 4 - (intOf i).toNat)
  case atStart => exact ⟨rfl, 0, rfl, by omega, H3.out⟩
  case round =>
    obtain ⟨rfl, k, rfl, hk, hA⟩ := hrel
    clear H3
    by_cases hlt : k < 4
    · have hki : (k : Int) < 4 := by omega
      have hk0 : (0 : Int) ≤ (k : Int) := by omega
      have ck := hA.cell k hlt
      have HK := Lib.hid hlt
      have HQ := Lib.hid hq
      cases hb : btq x k with
      | true =>
        have hbit := bit_one hb
        have hbq : bq q k = true := by rw [hq, bq_qx x k hlt]; exact hb
        have k1 := start_at hA HM1.out (by omega) shortN (nm4 k) (Nat.le_refl _)
        rw [vs_start q k hlt hbq] at k1
        have HV := Lib.hid (show VS q (k + 1) = (startV usN (VS q k) (nm4 k)).2 from by show (if bq q k then _ else _) = _; rw [hbq]; rfl)
        clear hb hbq hA hlt hq
        generalize toB (nm4 k) = xb at *
        go_wp2_with fail
        refine k1.mono ?_
        rintro e w4 ⟨rfl, h4⟩
        have H4 := Lib.hid (show MgX w1 v mb tb g nb (0 + 2 * (k + 1)) (VS q (k + 1)) w4 from by rw [HV.out]; exact h4.mono (by omega))
        clear k1 h4 ck
        go_wp2_with fail
        go_roundw
        case rel => exact ⟨rfl, k + 1, by go_num, by have := HK.out; omega, H4.out⟩
        case measure => have := HK.out; simp [intOf]; omega
      | false =>
        have hbit := bit_zero hb
        have hbq : bq q k = false := by rw [hq, bq_qx x k hlt]; exact hb
        have HV := Lib.hid (show VS q (k + 1) = VS q k from by show (if bq q k then _ else _) = _; rw [hbq]; rfl)
        have H4 := Lib.hid (show MgX w1 v mb tb g nb (0 + 2 * (k + 1)) (VS q (k + 1)) wr from by rw [HV.out]; exact hA.mono (by omega))
        clear hb hbq hA hlt hq
        generalize toB (nm4 k) = xb at *
        go_wp2_with fail
        go_roundw
        case rel => exact ⟨rfl, k + 1, by go_num, by have := HK.out; omega, H4.out⟩
        case measure => have := HK.out; simp [intOf]; omega
    · obtain rfl : k = 4 := by omega
      have k5 := hit_at hA HM1.out (by omega) (vs_end q).1
      rw [(vs_end q).2.1] at k5
      have H5 := Lib.hid hA
      have HQ := Lib.hid hq
      clear hA hlt hk hq
      go_wp2_with fail
      refine k5.mono ?_
      rintro e w4 ⟨v4, rfl, hO4⟩
      obtain ⟨a4, c4, hv4, _, _⟩ := Own.sized (h := (show Own wr w4 (⟨9, 1, v4, 0, []⟩ :: []) from hO4))
      subst hv4
      have h4 := H5.out.later hO4.below
      obtain ⟨d1, d2, d3, d4, d5⟩ := budB_ok (vs_end q).2.2
      have k6 : Calls Tryz.prog 26 #[.pointer (some ⟨v, 0, none⟩), .slice (some ⟨w4.heap.size, 0, none⟩) 3 3] (w4.alloc (.cells #[.int .i64 4, .string ⟨#[47, 97]⟩, .string ⟨#[47, 111, 108, 100]⟩, .slice none 0 0, .int .i64 2, .string ⟨#[47, 110, 101, 119]⟩, .string ⟨#[]⟩, .slice none 0 0, .int .i64 5, .string ⟨#[47, 110, 101, 119]⟩, .string ⟨#[47, 97]⟩, .slice none 0 0] 63)) fun e w' => e = .returned (.int .i64 0) ∧ MgX w1 v mb tb g nb (0 + 2 * 4) (VD q) w' :=
        mdo_at h4 HM1.out (ts := tsL) (opsL w4) tsL_ok 3 d1 d2 d3 d4 d5
      clear k5 hO4 h4 H5 d1 d2 d3 d4 d5
      go_wp2_with fail
      refine k6.mono ?_
      rintro e w5 ⟨rfl, h5⟩
      have H5 := Lib.hid h5
      clear k6 h5
      go_wp2_with fail
      go_loopw [4, 57] (fun s i wr => NoneR w1 v mb tb g nb (VR q) 8 s i wr) (fun _ i _ => 4 - (intOf i).toNat)
      case atStart => exact ⟨rfl, 0, rfl, by omega, H5.out⟩
      case round =>
        obtain ⟨rfl, k, rfl, hk, hA⟩ := hrel
        clear H5
        by_cases hlt : k < 4
        · have hki : (k : Int) < 4 := by omega
          have hk0 : (0 : Int) ≤ (k : Int) := by omega
          have ck := hA.cell k hlt
          have HK := Lib.hid hlt
          cases hb : btq x k with
          | false =>
            have hbit := bit_zero hb
            have hbq : bq q k = false := by rw [HQ.out, bq_qx x k hlt]; exact hb
            obtain ⟨nd, hns⟩ := vr_start q k hlt
            obtain ⟨hn1, hn2⟩ := hns hbq
            have k1 := of_at hA HM1.out (nm4 k) (nd.same _) (nd.few _) (nd.short _)
            rw [hn1] at k1
            have HA := Lib.hid hA
            have HN2 := Lib.hid hn2
            have HV := Lib.hid (show VR q (k + 1) = (startV usN (VR q k) (nm4 k)).2 from by show (if bq q k then _ else _) = _; rw [hbq]; rfl)
            have HS := Lib.hid (fun (W : World) (h : MgX w1 v mb tb g nb (8 + 2 * k) (VR q k) W) => start_at h HM1.out (by omega) shortN (nm4 k) (Nat.le_refl _))
            rw [hn2] at HS
            clear hb hbq hA hlt hns hn1 hn2 nd
            generalize toB (nm4 k) = xb at *
            go_wp2_with fail
            refine k1.mono ?_
            rintro e w6 ⟨rfl, h6⟩
            have k2 := HS.out w6 (HA.out.later h6)
            clear k1 h6
            go_wp2_with fail
            refine k2.mono ?_
            rintro e w7 ⟨rfl, h7⟩
            have H4 := Lib.hid (show MgX w1 v mb tb g nb (8 + 2 * (k + 1)) (VR q (k + 1)) w7 from by rw [HV.out]; exact h7.mono (by omega))
            clear k2 h7 ck
            go_wp2_with fail
            go_roundw
            case rel => exact ⟨rfl, k + 1, by go_num, by have := HK.out; omega, H4.out⟩
            case measure => have := HK.out; simp [intOf]; omega
          | true =>
            have hbit := bit_one hb
            have hbq : bq q k = true := by rw [HQ.out, bq_qx x k hlt]; exact hb
            have HV := Lib.hid (show VR q (k + 1) = VR q k from by show (if bq q k then _ else _) = _; rw [hbq]; rfl)
            have H4 := Lib.hid (show MgX w1 v mb tb g nb (8 + 2 * (k + 1)) (VR q (k + 1)) wr from by rw [HV.out]; exact hA.mono (by omega))
            clear hb hbq hA hlt
            generalize toB (nm4 k) = xb at *
            go_wp2_with fail
            go_roundw
            case rel => exact ⟨rfl, k + 1, by go_num, by have := HK.out; omega, H4.out⟩
            case measure => have := HK.out; simp [intOf]; omega
        · obtain rfl : k = 4 := by omega
          have H6 := Lib.hid hA
          clear hA hlt hk
          cases back with
          | true =>
            obtain ⟨d1, d2, d3, d4, d5⟩ := budB_ok (vr_end q)
            have k7 : Calls Tryz.prog 26 #[.pointer (some ⟨v, 0, none⟩), .slice (some ⟨wr.heap.size, 0, none⟩) 1 1] (wr.alloc (.cells #[.int .i64 5, .string ⟨#[47, 111, 108, 100]⟩, .string ⟨#[47, 97]⟩, .slice none 0 0] 63)) fun e w' => e = .returned (.int .i64 0) ∧ MgX w1 v mb tb g nb (8 + 2 * 4) (VB q true) w' :=
              mdo_at H6.out HM1.out (ts := tsB) (opsB wr) tsB_ok 1 d1 d2 d3 d4 d5
            clear H6 d1 d2 d3 d4 d5
            go_wp2_with fail
            refine k7.mono ?_
            rintro e w8 ⟨rfl, h8⟩
            have H7 := Lib.hid h8
            clear k7 h8
            go_wp2_with fail
            go_loopw [4, 90] (fun s i wr => NoneE w1 v mb tb g nb (VB q true) s i wr) (fun _ i _ => 4 - (intOf i).toNat)
            case atStart => exact ⟨rfl, 0, rfl, by omega, H7.out⟩
            case round =>
              obtain ⟨rfl, k, rfl, hk, hA⟩ := hrel
              clear H7
              by_cases hlt : k < 4
              · have hki : (k : Int) < 4 := by omega
                have hk0 : (0 : Int) ≤ (k : Int) := by omega
                have ck := hA.cell k hlt
                have HK := Lib.hid hlt
                obtain ⟨nd, hof⟩ := vb_all q true
                have k1 := of_at hA HM1.out (nm4 k) (nd.same _) (nd.few _) (nd.short _)
                rw [hof k hlt, HQ.out, bq_qx x k hlt] at k1
                obtain ⟨c1, c2, hc1, hc2, hc⟩ := has4 k hlt
                rw [← hc] at k1
                have HA := Lib.hid hA
                clear hof nd hc hlt hA
                cases hb : btq x k with
                | true =>
                  have hbit := bit_one hb
                  rw [hb] at k1
                  clear hb
                  generalize toB (nm4 k) = xb at *
                  cases c1 <;> cases c2 <;> simp only [Bool.or_true, Bool.true_or, Bool.or_self, Bool.true_and, Bool.false_and, bne_self_eq_false, Bool.bne_true, Bool.bne_false, Bool.true_bne, Bool.false_bne, Bool.not_true, Bool.not_false] at k1 <;> (
                    go_wp2_with fail
                    refine k1.mono ?_
                    rintro e w9 ⟨rfl, h9⟩
                    have H9 := Lib.hid (HA.out.later h9)
                    clear k1 h9 HA ck
                    go_wp2_with fail
                    go_roundw
                    case rel => first | exact ⟨rfl, k + 1, by go_num, by have := HK.out; omega, H9.out⟩
                    case measure => have := HK.out; simp [intOf]; omega)
                | false =>
                  have hbit := bit_zero hb
                  rw [hb] at k1
                  clear hb
                  generalize toB (nm4 k) = xb at *
                  cases c1 <;> cases c2 <;> simp only [Bool.or_true, Bool.true_or, Bool.or_self, Bool.true_and, Bool.false_and, bne_self_eq_false, Bool.bne_true, Bool.bne_false, Bool.true_bne, Bool.false_bne, Bool.not_true, Bool.not_false] at k1 <;> (
                    go_wp2_with fail
                    refine k1.mono ?_
                    rintro e w9 ⟨rfl, h9⟩
                    have H9 := Lib.hid (HA.out.later h9)
                    clear k1 h9 HA ck
                    go_wp2_with fail
                    go_roundw
                    case rel => first | exact ⟨rfl, k + 1, by go_num, by have := HK.out; omega, H9.out⟩
                    case measure => have := HK.out; simp [intOf]; omega)
              · obtain rfl : k = 4 := by omega
                have H8 := Lib.hid hA
                clear hA hlt hk
                go_wp2_with fail
                go_ret
                exact ⟨rfl, HB1.out.trans (H8.out.below.mono HB1.out.size)⟩
          | false =>
            have H7 := Lib.hid (show MgX w1 v mb tb g nb (8 + 2 * 4) (VB q false) wr from H6.out)
            clear H6
            go_wp2_with fail
            go_loopw [4, 90] (fun s i wr => NoneE w1 v mb tb g nb (VB q false) s i wr) (fun _ i _ => 4 - (intOf i).toNat)
            case atStart => exact ⟨rfl, 0, rfl, by omega, H7.out⟩
            case round =>
              obtain ⟨rfl, k, rfl, hk, hA⟩ := hrel
              clear H7
              by_cases hlt : k < 4
              · have hki : (k : Int) < 4 := by omega
                have hk0 : (0 : Int) ≤ (k : Int) := by omega
                have ck := hA.cell k hlt
                have HK := Lib.hid hlt
                obtain ⟨nd, hof⟩ := vb_all q false
                have k1 := of_at hA HM1.out (nm4 k) (nd.same _) (nd.few _) (nd.short _)
                rw [hof k hlt, HQ.out, bq_qx x k hlt] at k1
                obtain ⟨c1, c2, hc1, hc2, hc⟩ := has4 k hlt
                rw [← hc] at k1
                have HA := Lib.hid hA
                clear hof nd hc hlt hA
                cases hb : btq x k with
                | true =>
                  have hbit := bit_one hb
                  rw [hb] at k1
                  clear hb
                  generalize toB (nm4 k) = xb at *
                  cases c1 <;> cases c2 <;> simp only [Bool.or_true, Bool.true_or, Bool.or_self, Bool.true_and, Bool.false_and, bne_self_eq_false, Bool.bne_true, Bool.bne_false, Bool.true_bne, Bool.false_bne, Bool.not_true, Bool.not_false] at k1 <;> (
                    go_wp2_with fail
                    refine k1.mono ?_
                    rintro e w9 ⟨rfl, h9⟩
                    have H9 := Lib.hid (HA.out.later h9)
                    clear k1 h9 HA ck
                    go_wp2_with fail
                    refine ⟨?_, ?measure⟩
                    repeat' apply Exists.intro
                    refine ⟨?rel, rfl⟩
                    case rel => first | exact ⟨rfl, k + 1, by go_num, by have := HK.out; omega, H9.out⟩
                    case measure => have := HK.out; simp [intOf]; omega)
                | false =>
                  have hbit := bit_zero hb
                  rw [hb] at k1
                  clear hb
                  generalize toB (nm4 k) = xb at *
                  cases c1 <;> cases c2 <;> simp only [Bool.or_true, Bool.true_or, Bool.or_self, Bool.true_and, Bool.false_and, bne_self_eq_false, Bool.bne_true, Bool.bne_false, Bool.true_bne, Bool.false_bne, Bool.not_true, Bool.not_false] at k1 <;> (
                    go_wp2_with fail
                    refine k1.mono ?_
                    rintro e w9 ⟨rfl, h9⟩
                    have H9 := Lib.hid (HA.out.later h9)
                    clear k1 h9 HA ck
                    go_wp2_with fail
                    refine ⟨?_, ?measure⟩
                    repeat' apply Exists.intro
                    refine ⟨?rel, rfl⟩
                    case rel => first | exact ⟨rfl, k + 1, by go_num, by have := HK.out; omega, H9.out⟩
                    case measure => have := HK.out; simp [intOf]; omega)
              · obtain rfl : k = 4 := by omega
                have H8 := Lib.hid hA
                clear hA hlt hk
                go_wp2_with fail
                go_ret
                exact ⟨rfl, HB1.out.trans (H8.out.below.mono HB1.out.size)⟩
end Go.Proofs.YtfffkgbnjakhnaaGreatDoor
end

/- The world's shape gives the library's own bound. -/
section
namespace Go.Proofs.YtfffkgbnjakhnaaGreatDoor
open Go.RowKit
theorem mx_of {W : World} (h : W.ShapedOpen Tryz.prog) : Mx W := by
  obtain ⟨m, hm⟩ : ∃ m, W.cell? ⟨0, 0, none⟩ = some (.int .i64 m) := cell_of_shapedOpen_int (zero := #[.int .i64 0]) (t := 3) (k := .i64) h (of_decide_eq_true (by kernel_rfl)) (by kernel_rfl) rfl (by kernel_rfl) (by kernel_rfl) (by kernel_rfl)
  exact ⟨World.block_lt_of_cell? W _ hm, m, hm⟩
end Go.Proofs.YtfffkgbnjakhnaaGreatDoor
end
