/- The document's Read. -/
import Derived.Test.YthmcdmnjjofehaaDRef
namespace Go.Proofs.Ythmcdmnjjofehaa
open Go.RowKit
set_option linter.unusedVariables false
set_option linter.unusedSimpArgs false

def rfOut (R : Rf) (x : Nat) : Nat → List Value
  | 0 => R.kept.getD x []
  | i + 1 => match R.cache[i]? with
    | some p => if p.1 = x then p.2 else rfOut R x i
    | none => rfOut R x i
def rfRefused (R : Rf) (at_ : Int) : Int := if R.down then 3 else if at_ < 0 ∨ (R.kept.length : Int) ≤ at_ then 2 else 0
def rfRead (R : Rf) (at_ : Int) : List Value × Int := if rfRefused R at_ ≠ 0 then (zSec, rfRefused R at_) else (rfOut R at_.toNat R.cache.length, 0)
theorem rfOut_sec (R : Rf) (h : R.Ok) (x : Nat) (hx : x < R.kept.length) (i : Nat) : isSec (rfOut R x i) := by
  induction i with
  | zero =>
    show isSec (R.kept.getD x [])
    rw [List.getD_eq_getElem?_getD, List.getElem?_eq_getElem hx]
    exact h.kept _ (List.getElem_mem _)
  | succ i ih =>
    rw [rfOut]
    split
    · rename_i p hp
      split
      · exact (h.cache p (List.mem_of_getElem? hp)).2
      · exact ih
    · exact ih
def rSec (g : Nat) (s : List Value) : Rw := ⟨37, 64, .slice (some ⟨g, 0, none⟩) 1 1, 1, s⟩
theorem Own.sec {W0 w : World} {L : List Rw} (h : Own W0 w L) (xs : List Value) (hx : xs.length = 64) (g : Nat) (hg : g = w.heap.size) : Own W0 (w.alloc (.cells xs.toArray 37)) (rSec g xs :: L) :=
  h.made_at 37 64 xs.toArray 1 g hg (by simp [hx]) (by unfold maxLen; decide)
theorem Own.secSet {W0 w : World} {g : Nat} {xs : List Value} {L : List Rw} (h : Own W0 w (rSec g xs :: L)) (ys : List Value) (hx : xs.length = ys.length) : Own W0 (w.setCells g 0 ys) (rSec g ys :: L) := by
  have h1 := Own.setCells (h := h) ys 0
  rw [splice_all' xs ys hx] at h1
  exact h1
theorem Own.secRange {W0 w : World} {g : Nat} {xs : List Value} {L : List Rw} (h : Own W0 w (rSec g xs :: L)) (hx : xs.length = 64) : w.rangeAt g 0 xs := by
  have h1 := Own.range (h := h) 0 64
  rw [List.drop_zero, ← hx, List.take_length] at h1
  exact h1
theorem Own.secThere {W0 w : World} {g : Nat} {xs : List Value} {L : List Rw} (h : Own W0 w (rSec g xs :: L)) : w.there g 0 64 := Own.there (h := h) 0 64 (by decide)
theorem info_64 : (Try.prog.info? 37).map (·.size) = some 64 := by kernel_rfl
theorem zero_64 (w : World) : Sem.run Try.prog (zeroValue 37) w = .ok (.agg zSec.toArray) w := by kernel_rfl
theorem built_64 : Try.prog.built 37 [] = some zSec.toArray := by kernel_rfl
theorem rA_range {W0 w : World} {g n c : Nat} {K : List (List Value)} {L : List Rw} (h : Own W0 w (rA (.slice (some ⟨g, 0, none⟩) n c) K :: L)) (hn : K.length = n) (hK : ∀ t ∈ K, t.length = 64) (x : Nat) (hx : x < n) : w.rangeAt g (x * 64) (K.getD x []) := by
  subst hn
  have h1 := Own.range (h := h) (x * 64) 64
  rw [flat_take 64 K hK x hx] at h1
  rw [List.getD_eq_getElem?_getD, List.getElem?_eq_getElem hx]
  exact h1

set_option maxHeartbeats 3200000 in
set_option maxRecDepth 100000 in
theorem ref_read_refused (W0 w : World) (a b : Value) (R : Rf) (L : List Rw) (at_ : Int) (h : Own W0 w (rA a R.kept :: rB b R.cache :: L)) (hR : R.Ok) (hr : rfRefused R at_ ≠ 0) :
    Calls Try.prog 22 #[.agg (refCells a b R).toArray, .int .i64 at_] w fun e w' => e = .returned (.tuple #[.agg (rfRead R at_).1.toArray, .int .i64 (rfRead R at_).2]) ∧ Own W0 w' (rA a R.kept :: rB b R.cache :: L) := by
  have hz := zero_64
  have hi64 := info_64
  have hb := built_64
  have hone := zSec_sec.2
  have hE : rfRead R at_ = (zSec, rfRefused R at_) := by unfold rfRead; rw [if_pos hr]
  obtain ⟨ga, ca, rfl, _⟩ := h.form (show 0 < R.kept.length from hR.pos)
  obtain ⟨gb, cb, rfl, _⟩ := cache_form h.swap
  obtain ⟨H, hH⟩ : ∃ H, w.heap.size = H := ⟨_, rfl⟩
  have hO := (h.made_at 30 6 (refCells (.slice (some ⟨ga, 0, none⟩) R.kept.length ca) (.slice gb R.cache.length cb) R).toArray 1 H hH.symm rfl (by unfold maxLen; decide)).sec zSec rfl (H + 1) (by simp [hH])
  have hth := hO.secThere
  have HS := Lib.hid (hO.secSet zSec rfl)
  have HE := Lib.hid hE
  have hrf := hr
  unfold rfRefused at hE hrf
  unfold refCells at hth
  unfold refCells
  clear hE hO
  cases hd : R.down
  · rw [hd, if_neg (by decide)] at hrf
    have hout : at_ < 0 ∨ (R.kept.length : Int) ≤ at_ := by
      by_cases h1 : at_ < 0 ∨ (R.kept.length : Int) ≤ at_
      · exact h1
      · rw [if_neg h1] at hrf; exact absurd rfl hrf
    have hv : rfRefused R at_ = 2 := by unfold rfRefused; rw [hd, if_neg (by decide), if_pos hout]
    rw [hd] at hth
    clear hrf hr
    by_cases h0 : at_ < 0
    · go_enter Try.func22, Try.ntmps22
      go_wp2_with (first
        | (refine wpList_build rfl 37 #[] rfl [] rfl _ hb ?_)
        | (refine wpList_store_mid rfl 37 (.tmp 4) (.tmp 20) rfl (H + 1) 0 zSec.toArray rfl rfl hth hi64 (all_oneCell_toArray hone) ?_))
      have cr := HS.out.secRange rfl
      unfold refCells at cr
      rw [hd] at cr
      refine bodyPost_ret (v := .tuple #[.agg zSec.toArray, .int .i64 2]) (ret_cell_tmp Try.results22 rfl rfl cr Try.underlying37 rfl hi64) rfl ?_
      refine ⟨by rw [HE.out, hv], ?_⟩
      have := HS.out.tail.tail
      unfold refCells at this
      rw [hd] at this
      exact this
    · have hle : (R.kept.length : Int) ≤ at_ := by omega
      go_enter Try.func22, Try.ntmps22
      go_wp2_with (first
        | (refine wpList_build rfl 37 #[] rfl [] rfl _ hb ?_)
        | (refine wpList_store_mid rfl 37 (.tmp 4) (.tmp 20) rfl (H + 1) 0 zSec.toArray rfl rfl hth hi64 (all_oneCell_toArray hone) ?_))
      have cr := HS.out.secRange rfl
      unfold refCells at cr
      rw [hd] at cr
      refine bodyPost_ret (v := .tuple #[.agg zSec.toArray, .int .i64 2]) (ret_cell_tmp Try.results22 rfl rfl cr Try.underlying37 rfl hi64) rfl ?_
      refine ⟨by rw [HE.out, hv], ?_⟩
      have := HS.out.tail.tail
      unfold refCells at this
      rw [hd] at this
      exact this
  · have hv : rfRefused R at_ = 3 := by unfold rfRefused; rw [hd]; rfl
    rw [hd] at hth
    clear hrf hr
    go_enter Try.func22, Try.ntmps22
    go_wp2_with (first
      | (refine wpList_build rfl 37 #[] rfl [] rfl _ hb ?_)
      | (refine wpList_store_mid rfl 37 (.tmp 4) (.tmp 10) rfl (H + 1) 0 zSec.toArray rfl rfl hth hi64 (all_oneCell_toArray hone) ?_))
    have cr := HS.out.secRange rfl
    unfold refCells at cr
    rw [hd] at cr
    refine bodyPost_ret (v := .tuple #[.agg zSec.toArray, .int .i64 3]) (ret_cell_tmp Try.results22 rfl rfl cr Try.underlying37 rfl hi64) rfl ?_
    refine ⟨by rw [HE.out, hv], ?_⟩
    have := HS.out.tail.tail
    unfold refCells at this
    rw [hd] at this
    exact this

set_option maxHeartbeats 3200000 in
set_option maxRecDepth 100000 in
theorem ref_read_ok (W0 w : World) (a b : Value) (R : Rf) (L : List Rw) (x : Nat) (h : Own W0 w (rA a R.kept :: rB b R.cache :: L)) (hR : R.Ok) (hd : R.down = false) (hx : x < R.kept.length) :
    Calls Try.prog 22 #[.agg (refCells a b R).toArray, .int .i64 (x : Int)] w fun e w' => e = .returned (.tuple #[.agg (rfOut R x R.cache.length).toArray, .int .i64 0]) ∧ Own W0 w' (rA a R.kept :: rB b R.cache :: L) := by
  have hz := zero_64
  have hi64 := info_64
  obtain ⟨ga, ca, rfl, _⟩ := h.form (show 0 < R.kept.length from hR.pos)
  obtain ⟨gb, cb, rfl, hsome⟩ := cache_form h.swap
  obtain ⟨H, hH⟩ : ∃ H, w.heap.size = H := ⟨_, rfl⟩
  have hO := (h.made_at 30 6 (refCells (.slice (some ⟨ga, 0, none⟩) R.kept.length ca) (.slice gb R.cache.length cb) R).toArray 1 H hH.symm rfl (by unfold maxLen; decide)).sec zSec rfl (H + 1) (by simp [hH])
  have hs0 := rfOut_sec R hR x hx 0
  have hcr : World.rangeAt _ ga (x * 64) (rfOut R x 0) := rA_range (h := hO.third) rfl (fun t ht => (hR.kept t ht).1) x hx
  have hO2 := hO.sec (rfOut R x 0) hs0.1 (H + 1 + 1) (by simp [hH])
  have hO3 := hO.sec zSec rfl (H + 1 + 1) (by simp [hH])
  have hth0 := hO3.secThere
  have hO3 := hO3.secSet (rfOut R x 0) (by rw [hs0.1]; rfl)
  have hi0 : (Try.prog.info? 37).map (·.size) = some (rfOut R x 0).length := by rw [hs0.1]; exact info_64
  have hone0 := hs0.2
  have HS0 := Lib.hid hO3
  unfold refCells
  have h1 : (x : Int) < (R.kept.length : Int) := by omega
  have h2 : (0 : Int) ≤ (x : Int) := by omega
  unfold refCells at hcr hth0
  rw [hd] at hcr hth0
  rw [hd]
  have hmany := hR.many
  have Hs0 := Lib.hid hs0
  clear hO hO2 hO3 hs0
  have Hsz := Lib.hid (show (rfOut R x 0).toArray.size = 64 by simpa using Hs0.out.1)
  have hit : (Try.prog.info? 37).map (·.size) = some (rfOut R x 0).toArray.size := by simpa using hi0
  go_enter Try.func22, Try.ntmps22
  go_wp2_with (first
    | (refine wpList_load_mid rfl 37 (.tmp 24) rfl ga (x * 64) rfl (rfOut R x 0) _ hcr Try.underlying37 rfl hi0 ?_)
    | (refine wpList_store_mid rfl 37 (.tmp 6) (.tmp 25) rfl (H + 1 + 1) 0 (rfOut R x 0).toArray rfl rfl (by rw [Hsz.out]; exact hth0) hit (all_oneCell_toArray hone0) ?_))
  have HS1 := HS0.out
  unfold refCells at HS1
  rw [hd] at HS1
  have HS1 := Lib.hid HS1
  clear HS0 hcr hth0 hit hone0 hi0
  go_loopw [7] (fun t wr => ∃ i : Nat, i ≤ R.cache.length ∧ t = .int .i64 i ∧ Own W0 wr (rSec (H + 1 + 1) (rfOut R x i) :: rSec (H + 1) zSec :: ⟨30, 6, .slice (some ⟨H, 0, none⟩) 1 1, 1, [.slice (some ⟨ga, 0, none⟩) R.kept.length ca, .slice gb R.cache.length cb, .bool false, .int .i64 R.fate, .int .u64 R.keeps, .int .i64 R.steps]⟩ :: rA (.slice (some ⟨ga, 0, none⟩) R.kept.length ca) R.kept :: rB (.slice gb R.cache.length cb) R.cache :: L)) (fun t _ => R.cache.length - (intOf t).toNat)
  case atStart => exact ⟨0, by omega, rfl, HS1.out⟩
  case round =>
    obtain ⟨i, hi2, rfl, hO⟩ := hrel
    have c1 : wr.cell? ⟨H, 1, none⟩ = some (.slice gb R.cache.length cb) := Own.cell (h := hO.third) 1 (by decide)
    have hsi := rfOut_sec R hR x hx i
    by_cases hlt : i < R.cache.length
    · obtain ⟨sb, rfl⟩ := hsome (by omega)
      have hB := cache_cell (h := hO.fifth) hR.cache i hlt
      have hp : R.cache[i]? = some R.cache[i] := List.getElem?_eq_getElem hlt
      have HW := hR.cache _ (List.getElem_mem hlt)
      have HK := Lib.hid (show rfOut R x (i + 1) = if R.cache[i].1 = x then R.cache[i].2 else rfOut R x i by rw [rfOut, hp])
      generalize R.cache[i] = p at *
      obtain ⟨y, s⟩ := p
      clear hp
      obtain ⟨hy, hs64, hs1⟩ := HW
      have hB1 := hB.1
      have hB2 := hB.2
      have hth := hO.secThere
      have hsz : s.toArray.size = 64 := by simpa using hs64
      have his : (Try.prog.info? 37).map (·.size) = some s.length := by rw [hs64]; exact info_64
      have hit : (Try.prog.info? 37).map (·.size) = some s.toArray.size := by rw [hsz]; exact info_64
      have HN := Lib.hid (hO.secSet s (by rw [hsi.1, hs64]))
      have HO := Lib.hid hO
      have Hsz := Lib.hid hsz
      clear hO hB hsz hs64 hsi
      by_cases hyx : y = x
      · have hb1 : ((y : Int) == (x : Int)) = true := by rw [hyx]; simp
        have HK2 := Lib.hid (HK.out.trans (if_pos hyx))
        clear hyx HK
        go_wp2_with (first
          | (refine wpList_load_mid rfl 37 (.tmp 45) rfl sb (i * 65 + 1) rfl s _ hB2 Try.underlying37 rfl his ?_)
          | (refine wpList_store_mid rfl 37 (.tmp 6) (.tmp 46) rfl (H + 1 + 1) 0 s.toArray rfl rfl (by rw [Hsz.out]; exact hth) hit (all_oneCell_toArray hs1) ?_))
        exact ⟨⟨i + 1, by omega, by go_num, by rw [HK2.out]; exact HN.out⟩, by simp [intOf]; omega⟩
      · have hb1 : ((y : Int) == (x : Int)) = false := by simp; omega
        have HK2 := Lib.hid (HK.out.trans (if_neg hyx))
        clear hyx HK
        go_wp2_with fail
        exact ⟨⟨i + 1, by omega, by go_num, by rw [HK2.out]; exact HO.out⟩, by simp [intOf]; omega⟩
    · obtain rfl : i = R.cache.length := by omega
      have hth := hO.swap.secThere
      have hcr := hO.secRange hsi.1
      have HS := Lib.hid (hO.swap.secSet (rfOut R x R.cache.length) (by rw [hsi.1]; rfl))
      generalize hsE : rfOut R x R.cache.length = s at *
      have HsE := Lib.hid hsE
      clear hsE
      have hsz : s.toArray.size = 64 := by simpa using hsi.1
      have his : (Try.prog.info? 37).map (·.size) = some s.length := by rw [hsi.1]; exact info_64
      have hit : (Try.prog.info? 37).map (·.size) = some s.toArray.size := by rw [hsz]; exact info_64
      have hs1 := hsi.2
      have Hsi := Lib.hid hsi
      have Hsz := Lib.hid hsz
      clear hO hsi hsz HS1
      go_wp2_with (first
        | (refine wpList_load_mid rfl 37 (.tmp 6) rfl (H + 1 + 1) 0 rfl s _ hcr Try.underlying37 rfl his ?_)
        | (refine wpList_store_mid rfl 37 (.tmp 4) (.tmp 47) rfl (H + 1) 0 s.toArray rfl rfl (by rw [Hsz.out]; exact hth) hit (all_oneCell_toArray hs1) ?_))
      have cr := HS.out.secRange Hsi.out.1
      refine bodyPost_ret (v := .tuple #[.agg s.toArray, .int .i64 0]) (ret_cell_tmp Try.results22 rfl rfl cr Try.underlying37 rfl his) rfl ?_
      exact ⟨by rw [HsE.out], HS.out.tail.tail.tail⟩
end Go.Proofs.Ythmcdmnjjofehaa
