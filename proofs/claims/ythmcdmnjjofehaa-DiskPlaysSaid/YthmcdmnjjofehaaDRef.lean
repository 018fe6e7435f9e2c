/- The document's own disk: what each of its calls answers, over rows that the call owns. -/
import Derived.Test.YthmcdmnjjofehaaDOps
import Derived.Test.YthmcdmnjjofehaaDPower
namespace Go.Proofs.Ythmcdmnjjofehaa
open Go.RowKit
set_option linter.unusedVariables false
set_option linter.unusedSimpArgs false

structure Rf where
  kept : List (List Value)
  cache : List (Nat × List Value)
  down : Bool
  fate : Int
  keeps : Int
  steps : Int
structure Rf.Ok (R : Rf) : Prop where
  pos : 0 < R.kept.length
  le : R.kept.length ≤ 4096
  kept : ∀ s ∈ R.kept, isSec s
  cache : ∀ p ∈ R.cache, p.1 < R.kept.length ∧ isSec p.2
  many : R.cache.length ≤ 1000000
def rfKept (R : Rf) (keeps : Int) : Nat → List (List Value)
  | 0 => R.kept
  | i + 1 => match R.cache[i]? with
    | some p => if bitOf keeps i then (rfKept R keeps i).set p.1 p.2 else rfKept R keeps i
    | none => rfKept R keeps i
def rfCrash (R : Rf) (keeps : Int) : Rf := { kept := rfKept R keeps R.cache.length, cache := [], down := true, fate := -1, keeps := 0, steps := R.steps }
def refCells (a b : Value) (R : Rf) : List Value := [a, b, .bool R.down, .int .i64 R.fate, .int .u64 R.keeps, .int .i64 R.steps]
def rA (v : Value) (K : List (List Value)) : Rw := ⟨37, 64, v, K.length, K.flatten⟩
def rB (v : Value) (C : List (Nat × List Value)) : Rw := ⟨62, 65, v, C.length, (C.map wcells).flatten⟩
theorem rfKept_length (R : Rf) (keeps : Int) (i : Nat) : (rfKept R keeps i).length = R.kept.length := by
  induction i with
  | zero => rfl
  | succ i ih => rw [rfKept]; split; split <;> simp [ih]; exact ih
theorem rfKept_sec (R : Rf) (h : R.Ok) (keeps : Int) (i : Nat) : ∀ s ∈ rfKept R keeps i, isSec s := by
  induction i with
  | zero => exact h.kept
  | succ i ih =>
    rw [rfKept]
    split
    · rename_i p hp
      split
      · intro s hs
        rcases List.mem_or_eq_of_mem_set hs with h1 | rfl
        · exact ih s h1
        · exact (h.cache p (List.mem_of_getElem? hp)).2
      · exact ih
    · exact ih
theorem flat_one {K : List (List Value)} (h : ∀ s ∈ K, isSec s) : ∀ u ∈ K.flatten, u.oneCell' = true := by
  intro u hu
  obtain ⟨s, hs, hu⟩ := List.mem_flatten.1 hu
  exact (h s hs).2 u hu
theorem Own.src {W0 w : World} {e size n : Nat} {v : Value} {xs : List Value} {L : List Rw} (h : Own W0 w (⟨e, size, v, n, xs⟩ :: L)) (h1 : ∀ u ∈ xs, u.oneCell' = true) : Src w v n xs := by
  by_cases hn : n = 0
  · subst hn
    have hl := h.len
    have hx : xs = [] := by
      apply List.eq_nil_of_length_eq_zero
      have : xs.length = 0 * size := hl
      omega
    subst hx
    rcases h.head.2 with ⟨h2, _⟩ | ⟨g, cp, cur, h2, _⟩
    · exact .inl ⟨h2, rfl, rfl⟩
    · exact .inr ⟨_, cp, h2, fun j u hj => by simp at hj, h1⟩
  · obtain ⟨g, cap, rfl, _⟩ := h.form (by omega)
    refine .inr ⟨_, cap, rfl, fun j u hj => ?_, h1⟩
    have hl : xs.length = n * size := h.len
    have hlt : j < xs.length := by
      rcases Nat.lt_or_ge j xs.length with h2 | h2
      · exact h2
      · rw [List.getElem?_eq_none h2] at hj; cases hj
    rw [Addr.add_mid, Nat.zero_add, h.cell j (by omega)]
    exact hj
theorem zero_ref (w : World) : Sem.run Try.prog (zeroValue 30) w = .ok (.agg #[.slice none 0 0, .slice none 0 0, .bool false, .int .i64 0, .int .u64 0, .int .i64 0]) w := by kernel_rfl
theorem info_a : (Try.prog.info? 37).map (fun i => (i.zero, i.size, i.bytes)) = some (some (.agg zSec.toArray), 64, 64) := by kernel_rfl
theorem info_b : (Try.prog.info? 62).map (fun i => (i.zero, i.size, i.bytes)) = some (some (.agg zW.toArray), 65, 72) := by kernel_rfl
theorem info_r : (Try.prog.info? 30).map (·.size) = some 6 := by kernel_rfl
theorem zSec_size : (Value.agg zSec.toArray).cells.size = 64 := by kernel_rfl

theorem bit_tmod (keeps : Int) (i : Nat) (h0 : 0 ≤ keeps) : ((keeps / 2 ^ (i % 64)).tmod 2 == 1) = bitOf keeps i := by
  obtain ⟨n, rfl⟩ := Int.eq_ofNat_of_zero_le h0
  have e : ((n : Int) / 2 ^ (i % 64)) = ((n / 2 ^ (i % 64) : Nat) : Int) := by simp
  rw [e, Int.tmod_eq_emod_of_nonneg (Int.natCast_nonneg _)]
  unfold bitOf
  rw [Int.toNat_natCast, Nat.testBit_eq_decide_div_mod_eq]
  generalize n / 2 ^ (i % 64) = q
  rw [Bool.eq_iff_iff]
  simp
  omega
theorem rA_set {W0 w : World} {g n c : Nat} {K : List (List Value)} {L : List Rw} (h : Own W0 w (rA (.slice (some ⟨g, 0, none⟩) n c) K :: L)) (hn : K.length = n) (x : Nat) (s : List Value) (hx : x < n) (hK : ∀ t ∈ K, t.length = 64) (hs : s.length = 64) :
    Own W0 (w.setCells g (x * 64) s) (rA (.slice (some ⟨g, 0, none⟩) n c) (K.set x s) :: L) := by
  subst hn
  have h1 := Own.setCells (h := h) s (x * 64)
  rw [flat_splice 64 (by decide) K hK x hx s hs] at h1
  have e : (K.set x s).length = K.length := List.length_set ..
  unfold rA
  rw [e]
  exact h1
theorem rA_there {W0 w : World} {g n c : Nat} {K : List (List Value)} {L : List Rw} (h : Own W0 w (rA (.slice (some ⟨g, 0, none⟩) n c) K :: L)) (hn : K.length = n) (x : Nat) (hx : x < n) : w.there g (x * 64) 64 := by
  subst hn
  exact Own.there (h := h) (x * 64) 64 (by omega)
/-- A result of many cells. -/
theorem ret_cell {P : Program} {fn : Func} {p : Tmp} {ty : TypeId} (h : fn.results = #[.cell p ty]) {tmps : Array Value} {w : World} {b : Nat} {cs : List Value} {d : TypeDesc} (hp : tmps.getD p undef = .pointer (some ⟨b, 0, none⟩))
    (hr : w.rangeAt b 0 cs) (ht : P.underlying ty = some d) (hd : d.isRow = true) (hi : (P.info? ty).map (·.size) = some cs.length) : (results fn tmps).run P w = .ok (.agg cs.toArray) w := by
  have e : (asAddr (.pointer (some ⟨b, 0, none⟩))).run P w = .ok ⟨b, 0, none⟩ w := rfl
  have hp' : tmps[p]?.getD undef = .pointer (some ⟨b, 0, none⟩) := by simpa using hp
  simp only [results, h]
  simp [Sem.run_bind, Result.andThen, hp', e, run_loadVar_mid w b 0 ty cs d hr ht hd hi]
theorem cache_form {W0 w : World} {b : Value} {C : List (Nat × List Value)} {L : List Rw} (h : Own W0 w (rB b C :: L)) : ∃ g c, b = .slice g C.length c ∧ (0 < C.length → ∃ sb, g = some ⟨sb, 0, none⟩) := by
  rcases h.head.2 with ⟨h2, h3⟩ | ⟨g, cp, cur, h2, _⟩
  · have h3' : C.length = 0 := by simpa [rB] using h3
    exact ⟨none, 0, by rw [h3']; exact h2, fun h => by omega⟩
  · exact ⟨_, cp, h2, fun _ => ⟨_, rfl⟩⟩
theorem wcells_length' {K : Nat} {C : List (Nat × List Value)} (hs : ∀ p ∈ C, p.1 < K ∧ isSec p.2) : ∀ s ∈ C.map wcells, s.length = 65 := by
  intro s h
  obtain ⟨p, hp, rfl⟩ := List.mem_map.1 h
  simp [wcells, (hs p hp).2.1]
theorem cache_range {W0 w : World} {sb c K : Nat} {C : List (Nat × List Value)} {L : List Rw} (h : Own W0 w (rB (.slice (some ⟨sb, 0, none⟩) C.length c) C :: L)) (hs : ∀ p ∈ C, p.1 < K ∧ isSec p.2) (i : Nat) (hi : i < C.length) :
    w.rangeAt sb (i * 65) (wcells C[i]) := by
  have h1 := Own.range (h := h) (i * 65) 65
  rw [flat_take 65 _ (wcells_length' hs) i (by simpa using hi)] at h1
  simpa using h1
theorem cache_cell {W0 w : World} {sb c K : Nat} {C : List (Nat × List Value)} {L : List Rw} (h : Own W0 w (rB (.slice (some ⟨sb, 0, none⟩) C.length c) C :: L)) (hs : ∀ p ∈ C, p.1 < K ∧ isSec p.2) (i : Nat) (hi : i < C.length) :
    w.cell? ⟨sb, i * 65, none⟩ = some (.int .i64 (C[i].1 : Int)) ∧ w.rangeAt sb (i * 65 + 1) C[i].2 := by
  have h1 := cache_range h hs i hi
  refine ⟨h1 0 _ rfl, fun j v hj => ?_⟩
  have := h1 (j + 1) v (by simpa [wcells] using hj)
  rw [show i * 65 + 1 + j = i * 65 + (j + 1) from by omega]
  exact this

set_option maxHeartbeats 3200000 in
set_option maxRecDepth 100000 in
theorem ref_crash (W0 w : World) (a b : Value) (R : Rf) (L : List Rw) (keeps : Int) (h : Own W0 w (rA a R.kept :: rB b R.cache :: L)) (hR : R.Ok) (k0 : 0 ≤ keeps) (k1 : keeps < 18446744073709551616) :
    Calls Try.prog 14 #[.agg (refCells a b R).toArray, .int .u64 keeps] w fun e w' => ∃ a', e = .returned (.agg (refCells a' (.slice none 0 0) (rfCrash R keeps)).toArray) ∧ Own W0 w' (rA a' (rfCrash R keeps).kept :: rA a R.kept :: rB b R.cache :: L) := by
  have hz := zero_ref
  obtain ⟨i0, hi, hz0, hz1, hz2⟩ := info_parts info_a
  unfold refCells
  obtain ⟨g2, c2, rfl, hsome⟩ := cache_form h.swap
  have hO := (h.made 30 6 #[a, .slice g2 R.cache.length c2, .bool R.down, .int .i64 R.fate, .int .u64 R.keeps, .int .i64 R.steps] 1 rfl (by unfold maxLen; decide))
  have hO := (hO.made_at 30 6 #[.slice none 0 0, .slice none 0 0, .bool false, .int .i64 0, .int .u64 0, .int .i64 0] 1 (w.heap.size + 1) (by simp) rfl (by unfold maxLen; decide))
  have hO := (hO.made_at 37 64 #[] 0 (w.heap.size + 1 + 1) (by simp) rfl (by unfold maxLen; decide))
  have hsrc := Own.src (h := hO.fourth) (flat_one hR.kept)
  have hm := hR.le
  have hfl := flat_length 64 R.kept (fun s hs => (hR.kept s hs).1)
  have HO := Lib.hid hO
  have Hfl := Lib.hid hfl
  have hmany := hR.many
  clear hO hfl
  go_enter Try.func14, Try.ntmps14
  go_wp2_with (at_builtin; refine wpList_append_src rfl (.tmp 7) (.tmp 9) 26 rfl (.slice (some ⟨w.heap.size + 1 + 1, 0, none⟩) 0 0) 0 [] a R.kept.length R.kept.flatten rfl rfl HO.out i0 (.agg zSec.toArray) 64 Try.underlying26 hi hz0 hz1 hz2 zSec_size (by decide) hsrc Hfl.out (by unfold maxLen; omega) (by omega) ?_)
  intro a' w1 hO1
  clear hsrc HO
  obtain ⟨ga, ca, rfl, _, _⟩ := hO1.form (by show 0 < R.kept.length; exact hR.pos)
  generalize w.heap.size = H at *
  have Hst := Lib.hid (show Own W0 w1 (rA (.slice (some ⟨ga, 0, none⟩) R.kept.length ca) (rfKept R keeps 0) :: _) from hO1)
  clear hO1
  go_wp2_with fail
  go_loopw [6] (fun t wr => ∃ i : Nat, i ≤ R.cache.length ∧ t = .int .i64 i ∧ Own W0 wr (rA (.slice (some ⟨ga, 0, none⟩) R.kept.length ca) (rfKept R keeps i) :: ⟨30, 6, .slice (some ⟨H + 1, 0, none⟩) 1 1, 1, [.slice none 0 0, .slice none 0 0, .bool false, .int .i64 0, .int .u64 0, .int .i64 0]⟩ :: ⟨30, 6, .slice (some ⟨H, 0, none⟩) 1 1, 1, [a, .slice g2 R.cache.length c2, .bool R.down, .int .i64 R.fate, .int .u64 R.keeps, .int .i64 R.steps]⟩ :: rA a R.kept :: rB (.slice g2 R.cache.length c2) R.cache :: L)) (fun t _ => R.cache.length - (intOf t).toNat)
  case atStart => exact ⟨0, by omega, rfl, Hst.out⟩
  case round =>
    obtain ⟨i, hi2, rfl, hO⟩ := hrel
    have cb : wr.cell? ⟨H, 1, none⟩ = some (.slice g2 R.cache.length c2) := Own.cell (h := hO.third) 1 (by decide)
    by_cases hlt : i < R.cache.length
    · obtain ⟨sb, rfl⟩ := hsome (by omega)
      have hB := cache_cell (h := hO.fifth) hR.cache i hlt
      have hp : R.cache[i]? = some R.cache[i] := List.getElem?_eq_getElem hlt
      have HW := hR.cache _ (List.getElem_mem hlt)
      have HK := Lib.hid (show rfKept R keeps (i + 1) = if bitOf keeps i then (rfKept R keeps i).set R.cache[i].1 R.cache[i].2 else rfKept R keeps i by rw [rfKept, hp])
      generalize R.cache[i] = p at *
      obtain ⟨x, s⟩ := p
      clear hp
      obtain ⟨hx, hs64, hs1⟩ := HW
      have hB1 := hB.1
      have hB2 := hB.2
      have hx0 : (0 : Int) ≤ (x : Int) := by omega
      have hx1 : (x : Int) < (R.kept.length : Int) := by omega
      have hrl := rfKept_length R keeps i
      have Hs64 := Lib.hid hs64
      have ck : wr.there ga (x * 64) 64 := rA_there hO hrl x hx
      have HN := Lib.hid (rA_set hO.drew hrl x s hx (fun t ht => (rfKept_sec R hR keeps i t ht).1) hs64)
      have his : (Try.prog.info? 37).map (·.size) = some s.length := by rw [hs64]; exact (by kernel_rfl : (Try.prog.info? 37).map (·.size) = some 64)
      have HO := Lib.hid hO
      clear hO hB hrl
      cases hb : bitOf keeps i
      · rw [hb, if_neg (by decide)] at HK
        have hb1 : ((keeps / 2 ^ (i % 64)).tmod 2 == 1) = false := by rw [bit_tmod keeps i k0]; exact hb
        clear hb
        go_wp2_with fail
        exact ⟨⟨i + 1, by omega, by go_num, by rw [HK.out]; exact HO.out⟩, by simp [intOf]; omega⟩
      · rw [hb, if_pos rfl] at HK
        have hb1 : ((keeps / 2 ^ (i % 64)).tmod 2 == 1) = true := by rw [bit_tmod keeps i k0]; exact hb
        clear hb
        go_wp2_with fail
        go_still_tail 14, (by kernel_rfl)
        refine wpStill_load_mid rfl 37 (.tmp 36) rfl sb (i * 65 + 1) rfl s _ hB2 Try.underlying37 rfl his ?_
        repeat still_step
        refine wpStill_nil ?_
        change wpList _ _ _ _ _ wr.drew
        refine wpList_store_mid rfl 37 (.tmp 38) (.tmp 37) rfl ga (x * 64) s.toArray rfl rfl ?_ ?_ (all_oneCell_toArray hs1) ?_
        · simpa [hs64] using ck
        · simpa using his
        go_wp2_with fail
        exact ⟨⟨i + 1, by omega, by go_num, by rw [HK.out]; exact HN.out⟩, by simp [intOf]; omega⟩
    · obtain rfl : i = R.cache.length := by omega
      have c5 : wr.cell? ⟨H, 5, none⟩ = some (.int .i64 R.steps) := Own.cell (h := hO.third) 5 (by decide)
      have d0 : wr.cell? ⟨H + 1, 0, none⟩ = some (.slice none 0 0) := Own.cell (h := hO.swap) 0 (by decide)
      have e0 : wr.frozen? ⟨H + 1, 0, none⟩ = false := Own.free (h := hO.swap) 0
      have d1 : wr.cell? ⟨H + 1, 1, none⟩ = some (.slice none 0 0) := Own.cell (h := hO.swap) 1 (by decide)
      have e1 : wr.frozen? ⟨H + 1, 1, none⟩ = false := Own.free (h := hO.swap) 1
      have d2 : wr.cell? ⟨H + 1, 2, none⟩ = some (.bool false) := Own.cell (h := hO.swap) 2 (by decide)
      have e2 : wr.frozen? ⟨H + 1, 2, none⟩ = false := Own.free (h := hO.swap) 2
      have d3 : wr.cell? ⟨H + 1, 3, none⟩ = some (.int .i64 0) := Own.cell (h := hO.swap) 3 (by decide)
      have e3 : wr.frozen? ⟨H + 1, 3, none⟩ = false := Own.free (h := hO.swap) 3
      have d4 : wr.cell? ⟨H + 1, 4, none⟩ = some (.int .u64 0) := Own.cell (h := hO.swap) 4 (by decide)
      have e4 : wr.frozen? ⟨H + 1, 4, none⟩ = false := Own.free (h := hO.swap) 4
      have d5 : wr.cell? ⟨H + 1, 5, none⟩ = some (.int .i64 0) := Own.cell (h := hO.swap) 5 (by decide)
      have e5 : wr.frozen? ⟨H + 1, 5, none⟩ = false := Own.free (h := hO.swap) 5
      have hS := Own.setCells (h := hO.swap) (refCells (.slice (some ⟨ga, 0, none⟩) R.kept.length ca) (.slice none 0 0) (rfCrash R keeps)) 0
      rw [splice_all' [.slice none 0 0, .slice none 0 0, .bool false, .int .i64 0, .int .u64 0, .int .i64 0] (refCells (.slice (some ⟨ga, 0, none⟩) R.kept.length ca) (.slice none 0 0) (rfCrash R keeps)) rfl] at hS
      have HS := Lib.hid hS
      have hir := info_r
      clear hO hS
      go_wp2_with fail
      have cr := HS.out.range 0 6
      refine bodyPost_ret (v := .agg (refCells (.slice (some ⟨ga, 0, none⟩) R.kept.length ca) (.slice none 0 0) (rfCrash R keeps)).toArray) (ret_cell Try.results14 rfl cr Try.underlying30 rfl hir) rfl ?_
      exact ⟨_, rfl, HS.out.tail.swap.tail⟩
end Go.Proofs.Ythmcdmnjjofehaa
