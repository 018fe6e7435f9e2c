/- Texts one behind the other, each in a section of its own: what calls make of memory, step by step. -/
import Derived.Test.YtkhnkidggcjfeaaGreatDoorPackNeedHits1
import Derived.Laws.ResultCell
import Derived.Laws.MakeOwn
import Derived.RegionTactic
import Derived.BigRegion
import Derived.Deep.Draws
import Derived.Test.YtkhnkidggcjfeaaGreatDoorProg
import Derived.WalkLawsBesides
import Derived.Outline
import Derived.Lib.Hide
import Derived.Lib.AppendZerosOnto
import Derived.Lib.SliceRun
import Derived.Deep.QuietTactic
import Derived.BigQuiet
import Derived.Laws.BitsAllLaws
import Derived.Laws.BytesArg
import Derived.RowKit
import Derived.WalkKit
set_option linter.unusedVariables false
set_option linter.unusedSimpArgs false
set_option maxRecDepth 100000
section
namespace Go.Proofs.YtkhnkidggcjfeaaGreatDoor
open Go.RowKit
def readM (D : Dk) (at_ : Int) : List Value × Int := if refusedM D at_ ≠ 0 then (zSec, refusedM D at_) else (D.last.getD at_.toNat [], 0)
theorem built_sector : Tryz.prog.built 150 [] = some zSec.toArray := by kernel_rfl
theorem zSec_sec : isSec zSec := ⟨by decide, by decide⟩
theorem ret_cell_tmp {P : Program} {fn : Func} {p u : Tmp} {ty : TypeId} (h : fn.results = #[.cell p ty, .tmp u]) {tmps : Array Value} {w : World} {b : Nat} {cs : List Value} {v : Value} {d : TypeDesc} (hp : tmps.getD p undef = .pointer (some ⟨b, 0, none⟩)) (hu : tmps.getD u undef = v)
    (hr : w.rangeAt b 0 cs) (ht : P.underlying ty = some d) (hd : d.isRow = true) (hi : (P.info? ty).map (·.size) = some cs.length) : (results fn tmps).run P w = .ok (.tuple #[.agg cs.toArray, v]) w := by
  rw [results_cell_tmp h, hp, hu]
  have e : (asAddr (.pointer (some ⟨b, 0, none⟩))).run P w = .ok ⟨b, 0, none⟩ w := rfl
  rw [e]
  simp only [Result.andThen_ok, run_loadVar_mid w b 0 ty cs d hr ht hd hi]
set_option maxHeartbeats 1600000 in
set_option maxRecDepth 100000 in
theorem read_any (W0 : Base) (w : World) (d : Nat) (D : Dk) (L : List Rw) (at_ : Int) (h : DkAt W0 w d D L) :
    Calls Tryz.prog 74 #[.pointer (some ⟨d, 0, none⟩), .int .i64 at_] w fun e w' => e = .returned (.tuple #[.agg (readM D at_).1.toArray, .int .i64 (readM D at_).2]) ∧ Below w.heap.size w w' := by
  have hzs := zero_sector
  have h0 : Own w w [] := Own.start w
  have hz : (Tryz.prog.info? 150).map (·.size) = some zSec.length := info_sector
  by_cases hr : refusedM D at_ = 0
  · have hr2 : (refusedM D at_ != 0) = false := by rw [hr]; rfl
    obtain ⟨hD, kb, lb, n, sv, hn, hO⟩ := id h
    have hat : ∃ x : Nat, at_ = (x : Int) ∧ x < n := by
      unfold refusedM at hr
      split at hr
      · cases hr
      · split at hr
        · cases hr
        · exact ⟨at_.toNat, by omega, by omega⟩
    obtain ⟨x, rfl, hx⟩ := hat
    have hE : readM D x = (D.last.getD x [], 0) := by unfold readM; rw [if_neg (by simpa using hr), Int.toNat_natCast]
    have hgd : D.last.getD x [] = D.last[x]'(by omega) := by rw [List.getD_eq_getElem?_getD, List.getElem?_eq_getElem (by omega)]; rfl
    have hks : isSec (D.last.getD x []) := by rw [hgd]; exact hD.last _ (List.getElem_mem _)
    have cs : w.rangeAt lb (x * 64) (D.last.getD x []) := by
      have h1 := Own.range (h := hO.third) (x * 64) 64
      rw [flat_take 64 D.last (fun t ht => (hD.last t ht).1) x (by omega), ← hgd] at h1
      exact h1
    have his : (Tryz.prog.info? 150).map (·.size) = some (D.last.getD x []).length := by rw [hks.1]; exact info_sector
    have c1 := own_c1 hO
    have hlt : lb < w.heap.size := (hO.third.lt (List.mem_cons_self ..) (k := lb) rfl).2
    have hdt : d < w.heap.size := (hO.lt (List.mem_cons_self ..) (k := d) rfl).2
    have HE := Lib.hid hE
    have Hks := Lib.hid hks
    have Hr := Lib.hid hr
    have H0 := Lib.hid h
    have hx0 : (0 : Int) ≤ (x : Int) := by omega
    have hx1 : (x : Int) < (n : Int) := by omega
    generalize D.last.getD x [] = s at *
    have hs1 := Hks.out.2
    clear hE hgd hks hr hn hO hD h
    go_enter Tryz.func74, Tryz.ntmps74
    go_wp2_with (first
      | (go_at_call 117; refine (refused_any W0 _ d D L (x : Int) (H0.out.alloc _)).mono ?_; rintro e w' ⟨rfl, rfl⟩)
      | (refine wpList_load_mid rfl 150 (.tmp 19) rfl lb (x * 64) rfl s _ (World.rangeAt_alloc cs _) Tryz.underlying150 rfl his ?_)
      | (refine wpList_store_new rfl 150 (.tmp 4) (.tmp 20) rfl h0 s w.heap.size rfl rfl rfl ?hz1 his hs1 ?_))
    case hz1 => rw [Hks.out.1]; rfl
    intro w2 hO2 _
    have cr : w2.rangeAt w.heap.size 0 s := by have := hO2.range 0 s.length; rw [List.drop_zero, List.take_length] at this; exact this
    have hbw := hO2.below
    go_wp2_with fail
    refine bodyPost_ret (v := .tuple #[.agg s.toArray, .int .i64 0]) (ret_cell_tmp Tryz.results74 rfl rfl cr Tryz.underlying150 rfl his) rfl ?_
    exact ⟨by rw [HE.out], hbw⟩
  · have hr2 : (refusedM D at_ != 0) = true := by simpa using hr
    have hE : readM D at_ = (zSec, refusedM D at_) := by unfold readM; rw [if_pos hr]
    have HE := Lib.hid hE
    have H0 := Lib.hid h
    have hs1 := zSec_sec.2
    have hb := built_sector
    clear hE hr h
    go_enter Tryz.func74, Tryz.ntmps74
    go_wp2_with (first
      | (go_at_call 117; refine (refused_any W0 _ d D L at_ (H0.out.alloc _)).mono ?_; rintro e w' ⟨rfl, rfl⟩)
      | (refine wpList_build rfl 150 #[] rfl [] rfl _ hb ?_)
      | (refine wpList_store_new rfl 150 (.tmp 4) (.tmp 12) rfl h0 zSec w.heap.size rfl rfl rfl ?hz2 hz hs1 ?_))
    case hz2 => rfl
    intro w2 hO2 _
    have cr : w2.rangeAt w.heap.size 0 zSec := by have := hO2.range 0 zSec.length; rw [List.drop_zero, List.take_length] at this; exact this
    have hbw := hO2.below
    go_wp2_with fail
    refine bodyPost_ret (v := .tuple #[.agg zSec.toArray, .int .i64 (refusedM D at_)]) (ret_cell_tmp Tryz.results74 rfl rfl cr Tryz.underlying150 rfl hz) rfl ?_
    exact ⟨by rw [HE.out], hbw⟩
def newM (n : Nat) : Dk := { kept := List.replicate n zSec, last := List.replicate n zSec, since := [], steps := 0, left := 0, keeps := 0, down := false }
theorem newM_ok (n : Nat) (h0 : 0 < n) (h1 : n ≤ 4096) : (newM n).Ok := by
  have hs : ∀ s ∈ List.replicate n zSec, isSec s := fun s hs => by rw [(List.mem_replicate.1 hs).2]; exact zSec_sec
  exact ⟨by simpa [newM] using h0, by simp [newM], by simpa [newM] using h1, hs, hs, (fun p hp => by cases hp), Nat.zero_le _, Int.le_refl _, Int.le_refl _, (by decide : (0 : Int) ≤ 9223372036854775807), Int.le_refl _, (by decide : (0 : Int) < 18446744073709551616)⟩
def NewAt (W0 : Base) (n : Nat) (L : List Rw) (e : Ending) (w : World) : Prop := ∃ d, e = .returned (.pointer (some ⟨d, 0, none⟩)) ∧ DkAt W0 w d (newM n) L
theorem info_s : (Tryz.prog.info? 150).map (fun i => (i.zero, i.size, i.bytes)) = some (some (.agg zSec.toArray), 64, 64) := by kernel_rfl
theorem made_flat (n : Nat) : (madeCells zSec.toArray (n * 64)).toList = (List.replicate n zSec).flatten := by
  apply List.ext_getElem?
  intro q
  have hl : ∀ s ∈ List.replicate n zSec, s.length = 64 := fun s hs => by rw [(List.mem_replicate.1 hs).2]; rfl
  by_cases hq : q < n * 64
  · have h1 : (List.replicate n zSec).flatten[q]? = zSec[q % 64]? := by
      have hqd : q = q / 64 * 64 + q % 64 := by omega
      have := flat_get 64 (by decide) _ hl (q / 64) (q % 64) (by rw [List.length_replicate]; omega) (by omega)
      rw [← hqd, List.getElem_replicate] at this
      exact this
    rw [h1]
    have hm : q % 64 < zSec.length := by show q % 64 < 64; omega
    simp only [madeCells, Array.toList_map, List.getElem?_map, Array.toList_range, List.getElem?_range hq, Option.map_some, List.size_toArray]
    rw [List.getElem?_eq_getElem hm]
    congr 1
    have hm2 : q % zSec.length < zSec.toArray.size := by show q % 64 < 64; omega
    rw [getElem!_pos zSec.toArray (q % zSec.length) hm2]
    rfl
  · rw [List.getElem?_eq_none (by simp [madeCells]; omega), List.getElem?_eq_none]
    rw [flat_length 64 _ hl, List.length_replicate]
    omega
def okLen (v : Value) : Prop := ∃ n : Nat, v = .int .i64 (n : Int) ∧ n ≤ 4096
def lenOf (v : Value) : Nat := (intOf v).toNat
theorem wp_make_sec {dd : Option Tmp} {x y : Operand} {ty : TypeId} {ps : String} {af : Array Edge} {gd : Option (Nat × Bool)} {a : Act} {w : World} {K : Act → World → Prop} {Q : Exit → Act → World → Prop} (h : okLen (a.eval x)) (hy : a.eval y = a.eval x) :
    Oper.wp Tryz.prog ⟨dd, .makeSlice 104 x y, ty, ps, af, gd⟩ a w K Q = K (a.put dd (.slice (some ⟨w.heap.size, 0, none⟩) (lenOf (a.eval x)) (lenOf (a.eval x)))) (w.alloc (.cells (madeCells zSec.toArray (lenOf (a.eval x) * 64)) 150)) := by
  obtain ⟨n, hx, hn⟩ := h
  obtain ⟨i0, hi, hz0, hz1, hz2⟩ := info_parts info_s
  have hr := run_make (P := Tryz.prog) w 104 150 i0 (.agg zSec.toArray) Tryz.underlying104 hi hz0 .i64 .i64 (n : Int) (n : Int) (by omega) (Int.le_refl _) (by rw [hz2]; omega) (by omega)
  rw [hz1] at hr
  unfold Oper.wp execOp
  simp only [hy, hx, Sem.run_bind, hr, Result.andThen_ok, Sem.run_pure]
  rfl
theorem new_rows {W0 : Base} {w : World} {L : List Rw} (n : Nat) (h : Own W0 w L) (hn1 : n ≤ 4096) : Own W0 ((w.alloc (.cells (madeCells zSec.toArray (n * 64)) 150)).alloc (.cells (madeCells zSec.toArray (n * 64)) 150)) (rowK (w.heap.size + 1) n (List.replicate n zSec) :: rowK w.heap.size n (List.replicate n zSec) :: L) := by
  have hm : n ≤ maxLen := by unfold maxLen; omega
  have h1 := h.made 150 64 (madeCells zSec.toArray (n * 64)) n (size_madeCells _ _) hm
  have h2 := h1.made_at 150 64 (madeCells zSec.toArray (n * 64)) n (w.heap.size + 1) (by simp) (size_madeCells _ _) hm
  rw [made_flat] at h2
  exact h2
theorem new_at1 {W0 : Base} {w : World} {L : List Rw} (n : Nat) (h : Own W0 w L) (hn0 : 0 < n) (hn1 : n ≤ 4096) : DkAt W0 (((w.alloc (.cells (madeCells zSec.toArray (n * 64)) 150)).alloc (.cells (madeCells zSec.toArray (n * 64)) 150)).alloc (.cells #[.slice (some ⟨w.heap.size, 0, none⟩) n n, .slice (some ⟨w.heap.size + 1, 0, none⟩) n n, .slice none 0 0, .int .i64 0, .int .i64 0, .int .u64 0, .bool false] 108)).drew (w.heap.size + 1 + 1) (newM n) L := by
  have h3 := (new_rows n h hn1).swap.made_at 108 7 #[.slice (some ⟨w.heap.size, 0, none⟩) n n, .slice (some ⟨w.heap.size + 1, 0, none⟩) n n, .slice none 0 0, .int .i64 0, .int .i64 0, .int .u64 0, .bool false] 1 (w.heap.size + 1 + 1) (by simp) rfl (by unfold maxLen; decide)
  exact ⟨newM_ok n hn0 hn1, w.heap.size, w.heap.size + 1, n, .slice none 0 0, by simp [newM], (h3.nil _ _).unfourth.drew⟩
theorem new_at2 {W0 : Base} {w : World} {L : List Rw} (n : Nat) (h : Own W0 w L) (hn0 : 0 < n) (hn1 : n ≤ 4096) : DkAt W0 (((w.alloc (.cells (madeCells zSec.toArray (n * 64)) 150)).alloc (.cells (madeCells zSec.toArray (n * 64)) 150)).alloc (.cells #[.slice (some ⟨w.heap.size + 1, 0, none⟩) n n, .slice (some ⟨w.heap.size, 0, none⟩) n n, .slice none 0 0, .int .i64 0, .int .i64 0, .int .u64 0, .bool false] 108)).drew (w.heap.size + 1 + 1) (newM n) L := by
  have h3 := (new_rows n h hn1).made_at 108 7 #[.slice (some ⟨w.heap.size + 1, 0, none⟩) n n, .slice (some ⟨w.heap.size, 0, none⟩) n n, .slice none 0 0, .int .i64 0, .int .i64 0, .int .u64 0, .bool false] 1 (w.heap.size + 1 + 1) (by simp) rfl (by unfold maxLen; decide)
  exact ⟨newM_ok n hn0 hn1, w.heap.size + 1, w.heap.size, n, .slice none 0 0, by simp [newM], (h3.nil _ _).unfourth.drew⟩
attribute [local go_sem ↓] wp_make_sec Go.wp_at_zero Go.wp_at_succ
set_option maxHeartbeats 1600000 in
set_option maxRecDepth 100000 in
theorem new_pos (W0 : Base) (w : World) (L : List Rw) (n : Nat) (h : Own W0 w L) (hn0 : 0 < n) (hn1 : n ≤ 4096) :
    Calls Tryz.prog 16 #[.int .i64 (n : Int)] w (NewAt W0 n L) := by
  have q1 : okLen (.int .i64 (n : Int)) := ⟨n, rfl, hn1⟩
  have q2 : lenOf (.int .i64 (n : Int)) = n := rfl
  go_enter Tryz.func16, Tryz.ntmps16
  go_wp2_with fail
  have HA := Lib.hid (new_at1 n h hn0 hn1)
  have HB := Lib.hid (new_at2 n h hn0 hn1)
  go_region
  all_goals go_wp2_with fail
  all_goals go_ret
  · exact ⟨_, rfl, HA.out⟩
  · exact ⟨_, rfl, HB.out⟩
end Go.Proofs.YtkhnkidggcjfeaaGreatDoor
end
section
namespace Go.Proofs.YtkhnkidggcjfeaaGreatDoor
open Go.RowKit
abbrev bs (l : List Int) : List Value := l.map (Value.int .u8)
def Byts (l : List Int) : Prop := ∀ z ∈ l, 0 ≤ z ∧ z < 256
theorem Byts.append {a b : List Int} (h : Byts a) (k : Byts b) : Byts (a ++ b) := fun z hz => by
  rcases List.mem_append.1 hz with h1 | h1
  · exact h z h1
  · exact k z h1
theorem Byts.take {a : List Int} (h : Byts a) (n : Nat) : Byts (a.take n) := fun z hz => h z (List.mem_of_mem_take hz)
theorem Byts.drop {a : List Int} (h : Byts a) (n : Nat) : Byts (a.drop n) := fun z hz => h z (List.mem_of_mem_drop hz)
theorem Byts.nil : Byts [] := fun z hz => by cases hz
theorem bs_length (l : List Int) : (bs l).length = l.length := by simp [bs]
theorem bs_one (l : List Int) : ∀ u ∈ bs l, u.oneCell' = true := by
  intro u hu
  obtain ⟨z, _, rfl⟩ := List.mem_map.1 hu
  rfl
theorem bs_append (a b : List Int) : bs (a ++ b) = bs a ++ bs b := by simp [bs]
theorem ownsRow_base {w : World} {b b' : Nat} {e : TypeId} {size : Nat} {v : Value} {n : Nat} {xs : List Value} (h : w.ownsRow b e size v n xs) (hb : b' ≤ b) : w.ownsRow b' e size v n xs := by
  refine ⟨h.1, ?_⟩
  rcases h.2 with h1 | ⟨g, cap, cur, h1, h2, h3⟩
  · exact .inl h1
  · exact .inr ⟨g, cap, cur, h1, Nat.le_trans hb h2, h3⟩
theorem Own.join {W0 : Base} {w w' : World} {L M : List Rw} (h : Own W0 w L) (k : Own w w' M) : Own W0 w' (M ++ L) := by
  have hl := h.later k.below
  refine ⟨hl.below, fun p hp => ?_, ?_, hl.maps, fun m hm p hp => ?_⟩
  · rcases List.mem_append.1 hp with h1 | h1
    · exact ownsRow_base (k.rows p h1) h.size
    · exact hl.rows p h1
  · refine List.pairwise_append.2 ⟨k.apart, h.apart, fun p hp q hq => ?_⟩
    cases hb : p.v.ownBlock with
    | none => exact .inl rfl
    | some b =>
      right
      intro e
      have h1 : w.heap.size ≤ b := (k.lt hp hb).1
      have h2 := (h.lt hq e.symm).2
      omega
  · rcases List.mem_append.1 hp with h1 | h1
    · intro e
      have h2 := (k.lt h1 e).1
      have h3 := lt_of_heap (h.maps m hm).2
      have h4 : w.heap.size ≤ m.1 := h2
      omega
    · exact hl.offmaps m hm p h1
theorem Own.drewN {W0 : Base} {w : World} {L : List Rw} (h : Own W0 w L) {n : Nat} : Own W0 (w.drewN n) L :=
  ⟨h.below.trans ⟨rfl, rfl, rfl, Nat.le_refl _, fun _ _ => rfl⟩, fun p hp => h.rows p hp, h.apart, h.maps, h.offmaps⟩
theorem Own.sized {W0 : Base} {w : World} {e size n : Nat} {v : Value} {xs : List Value} {L : List Rw} (h : Own W0 w (⟨e, size, v, n, xs⟩ :: L)) : ∃ a c, v = .slice a n c ∧ n ≤ c ∧ c ≤ maxLen := by
  rcases h.head.2 with ⟨h2, h3⟩ | ⟨g, cp, cur, h2, _, _, h3, h4, _⟩
  · have h2' : v = .slice none 0 0 := h2
    have h3' : n = 0 := h3
    subst h3'
    exact ⟨_, _, h2', Nat.le_refl _, Nat.zero_le _⟩
  · exact ⟨_, _, h2, h3, h4⟩
theorem Own.src' {W0 : Base} {w : World} {e size n : Nat} {v : Value} {xs : List Value} {L : List Rw} (h : Own W0 w (⟨e, size, v, n, xs⟩ :: L)) (h1 : ∀ u ∈ xs, u.oneCell' = true) : Src w v n xs := by
  by_cases hn : n = 0
  · subst hn
    have hl := h.len
    have hx : xs = [] := by
      apply List.eq_nil_of_length_eq_zero
      have : xs.length = 0 * size := hl
      omega
    subst hx
    rcases h.head.2 with ⟨h2, _⟩ | ⟨g, cp, cur, h2, _⟩
    · exact .inl ⟨h2, rfl, rfl⟩
    · exact .inr ⟨_, cp, h2, fun j u hj => by simp at hj, h1⟩
  · obtain ⟨g, cap, rfl, _⟩ := h.form (by omega)
    refine .inr ⟨_, cap, rfl, fun j u hj => ?_, h1⟩
    have hl : xs.length = n * size := h.len
    have hlt : j < xs.length := by
      rcases Nat.lt_or_ge j xs.length with h2 | h2
      · exact h2
      · rw [List.getElem?_eq_none h2] at hj; cases hj
    rw [Addr.add_mid, Nat.zero_add, h.cell j (by omega)]
    exact hj
def By (w : World) (v : Value) (zs : List Int) : Prop :=
  Src w v zs.length (bs zs) ∧ Byts zs ∧ ∃ a c, v = .slice a zs.length c ∧ zs.length ≤ c ∧ c ≤ maxLen
def rowU (v : Value) (zs : List Int) : Rw := ⟨5, 1, v, zs.length, bs zs⟩
theorem Src.later {w w' : World} {v : Value} {m : Nat} {news : List Value} (h : Src w v m news) (hb : Below w.heap.size w w') : Src w' v m news := by
  rcases h with h | ⟨ad, c, hv, hc, h1⟩
  · exact .inl h
  · exact .inr ⟨ad, c, hv, fun j u hj => (hb.cell (p := ad.add j) (World.block_lt_of_cell? w _ (hc j u hj))).trans (hc j u hj), h1⟩
theorem By.later {w w' : World} {v : Value} {zs : List Int} (h : By w v zs) (hb : Below w.heap.size w w') : By w' v zs := ⟨h.1.later hb, h.2.1, h.2.2⟩
theorem By.drew {w : World} {v : Value} {zs : List Int} (h : By w v zs) : By w.drew v zs := h
theorem Own.by {W0 : Base} {w : World} {v : Value} {zs : List Int} {L : List Rw} (h : Own W0 w (rowU v zs :: L)) (hz : Byts zs) : By w v zs := by
  have h' : Own W0 w (⟨5, 1, v, zs.length, bs zs⟩ :: L) := h
  exact ⟨h'.src' (bs_one zs), hz, h'.sized⟩
theorem Own.only {W0 : Base} {w : World} {L : List Rw} (h : Own W0 w L) {r : Rw} (hm : r ∈ L) : Own W0 w [r] := ⟨h.below, fun p hp => by rw [List.mem_singleton.1 hp]; exact h.rows r hm, List.pairwise_singleton _ _, h.maps, fun m hq p hp => by rw [List.mem_singleton.1 hp]; exact h.offmaps m hq r hm⟩
theorem By.cells {w : World} {v : Value} {zs : List Int} (h : By w v zs) (hne : 0 < zs.length) : ∃ g o c, v = .slice (some ⟨g, o, none⟩) zs.length c ∧ zs.length ≤ c ∧ c ≤ maxLen ∧ ∀ j (hj : j < zs.length), w.cell? ⟨g, o + j, none⟩ = some (.int .u8 zs[j]) := by
  obtain ⟨hs, hz, a, c, hv, h1, h2⟩ := h
  rcases hs with ⟨_, h0, _⟩ | ⟨ad, c', hv', hc, _⟩
  · omega
  · rw [hv] at hv'
    injection hv' with e1 e2 e3
    subst e1 e3
    obtain ⟨b, off, spot⟩ := ad
    have hc0 := hc 0 (.int .u8 zs[0]) (by simp [bs, hne])
    have hspot : spot = none := by simpa [Addr.add] using World.cell?_spot hc0
    subst hspot
    refine ⟨b, off, c, hv, h1, h2, fun j hj => ?_⟩
    have := hc j (.int .u8 zs[j]) (by simp [bs, hj])
    rwa [Addr.add_mid] at this
def le4 (n : Int) : List Int := [n % 256, n / 256 % 256, n / 65536 % 256, n / 16777216]
theorem le4_byts (n : Int) (h0 : 0 ≤ n) (h1 : n < 4294967296) : Byts (le4 n) := by
  intro z hz
  simp only [le4, List.mem_cons, List.not_mem_nil, or_false] at hz
  rcases hz with rfl | rfl | rfl | rfl <;> omega
def sb (s : ByteArray) : List Int := s.data.toList.map fun x => (x.toNat : Int)
theorem sb_length (s : ByteArray) : (sb s).length = s.size := by simp [sb]
theorem sb_byts (s : ByteArray) : Byts (sb s) := by
  intro z hz
  obtain ⟨x, _, rfl⟩ := List.mem_map.1 hz
  have := x.toNat_lt
  omega
end Go.Proofs.YtkhnkidggcjfeaaGreatDoor
end
section
namespace Go.Proofs.YtkhnkidggcjfeaaGreatDoor
open Go.RowKit
theorem info_u : (Tryz.prog.info? 5).map (fun i => (i.zero, i.size, i.bytes)) = some (some (.int .u8 0), 1, 1) := by kernel_rfl
theorem num_any (n : Int) (w : World) (h0 : 0 ≤ n) (h1 : n < 4294967296) :
    Calls Tryz.prog 144 #[.int .i64 n] w fun e w' => ∃ v, e = .returned v ∧ Own w w' [rowU v (le4 n)] := by
  go_enter Tryz.func144, Tryz.ntmps144
  go_wp2_with fail
  go_ret
  exact ⟨_, rfl, (Own.start w).made 5 1 #[.int .u8 (n % 256), .int .u8 (n / 256 % 256), .int .u8 (n / 65536 % 256), .int .u8 (n / 16777216)] 4 rfl (by unfold maxLen; decide)⟩
theorem grow_zero (w : World) : Calls Tryz.prog 227 #[.slice none 0 0, .int .i64 0] w fun e w' => e = .returned (.slice none 0 0) ∧ w = w' := by
  go_enter Tryz.func227, Tryz.ntmps227
  go_wp2_with fail
  go_ret
  exact ⟨rfl, rfl⟩
theorem grow_pos (n : Nat) (w : World) (h0 : 0 < n) (h1 : n ≤ 140737488355328) : Calls Tryz.prog 227 #[.slice none 0 0, .int .i64 (n : Int)] w fun e w' => ∃ v, e = .returned v ∧ Own w w' [rowU v []] := by
  obtain ⟨i0, hi, hz0, hz1, hz2⟩ := info_parts info_u
  have hrz : ∀ ty, (Builtin.append_ #[224, 3] ty #[.slice none 0 0, .int .i64 (n : Int)]).run Tryz.prog w =
      .ok (.slice (some ⟨w.heap.size, 0, none⟩) n (grownCap w n 0 5)) (w.drew.alloc (.cells (#[] ++ Builtin.zeroCells (Value.int .u8 0).cells n ++ Builtin.zeroCells (Value.int .u8 0).cells (grownCap w n 0 5 - n)) 5)) := fun ty => by
    have h := Lib.run_append_grow_zeros w 224 3 ty 5 i0 (.int .u8 0) .i64 .i64 Tryz.underlying224 Tryz.underlying3 hi hz0 none 0 0 [] (run_firstCells_none w.drew i0.size 0 0 0) n h0 (by omega) (by omega) (by omega) (by rw [hz2]; omega) (growslice_fits (by omega) (by rw [hz2]; omega))
    simpa using h
  have hge : n ≤ grownCap w n 0 5 := grownCap_ge w _ _ _
  have hle : grownCap w n 0 5 ≤ maxLen := grownCap_le_maxLen w n 0 _ (by unfold maxLen; omega)
  obtain ⟨G, hG⟩ : ∃ G, G = grownCap w n 0 5 := ⟨_, rfl⟩
  rw [← hG] at hrz hge hle
  have hO := World.ownsRow_made (base := w.heap.size) (e := 5) (size := 1) w.drew (#[] ++ Builtin.zeroCells (Value.int .u8 0).cells n ++ Builtin.zeroCells (Value.int .u8 0).cells (G - n)) G (Nat.le_refl _) hle (by simp [Builtin.zeroCells, Value.cells]; omega)
  generalize (#[] ++ Builtin.zeroCells (Value.int .u8 0).cells n ++ Builtin.zeroCells (Value.int .u8 0).cells (G - n)) = C at *
  have hO2 : Own w (w.drew.alloc (.cells C 5)) [rowU (.slice (some ⟨w.heap.size, 0, none⟩) 0 G) []] := ⟨(Own.start w).drew.alloc (.cells C 5) |>.below, fun p hp => by rw [List.mem_singleton.1 hp]; exact hO, List.pairwise_singleton _ _, (fun m hm => by cases hm), (fun m hm => by cases hm)⟩
  have HO := Lib.hid hO2
  have hG63 : G ≤ 9223372036854775807 := by unfold maxLen at hle; omega
  clear hG hO hO2 hle
  go_enter Tryz.func227, Tryz.ntmps227
  go_wp2_with (at_builtin; refine Lib.wpList_append_run _ rfl _ _ _ _ rfl _ _ rfl rfl _ _ (hrz _) ?_)
  go_ret
  exact ⟨_, rfl, HO.out⟩
def Parts (w : World) (a : Option Addr) (PS : List (Value × List Int)) : Prop :=
  ∀ i (h : i < PS.length), ∃ g o, a = some ⟨g, o, none⟩ ∧ w.cell? ⟨g, o + i, none⟩ = some PS[i].1 ∧ By w PS[i].1 PS[i].2
def allOf (PS : List (Value × List Int)) : List Int := (PS.map (·.2)).flatten
theorem allOf_take_succ (PS : List (Value × List Int)) (i : Nat) (h : i < PS.length) : allOf (PS.take (i + 1)) = allOf (PS.take i) ++ PS[i].2 := by
  unfold allOf
  rw [List.take_succ_eq_append_getElem h]
  simp only [List.map_append, List.map_cons, List.map_nil, List.flatten_append, List.flatten_cons, List.flatten_nil, List.append_nil]
theorem allOf_take_le (PS : List (Value × List Int)) (i : Nat) : (allOf (PS.take i)).length ≤ (allOf PS).length := by
  have h : allOf PS = allOf (PS.take i) ++ allOf (PS.drop i) := by
    unfold allOf
    rw [← List.flatten_append, ← List.map_append, List.take_append_drop]
  rw [h, List.length_append]; omega
theorem Parts.later {w w' : World} {a : Option Addr} {PS : List (Value × List Int)} (h : Parts w a PS) (hb : Below w.heap.size w w') : Parts w' a PS := by
  intro i hi
  obtain ⟨g, o, ha, hc, hy⟩ := h i hi
  exact ⟨g, o, ha, (hb.cell (p := ⟨g, o + i, none⟩) (World.block_lt_of_cell? w _ hc)).trans hc, hy.later hb⟩
set_option maxHeartbeats 1600000 in
theorem concat_any (a : Option Addr) (c : Nat) (PS : List (Value × List Int)) (w : World) (hP : Parts w a PS) (hn : PS.length ≤ maxLen) (hl : (allOf PS).length ≤ 140737488355328) :
    Calls Tryz.prog 196 #[.slice a PS.length c] w fun e w' => ∃ v, e = .returned v ∧ Own w w' [rowU v (allOf PS)] := by
  unfold maxLen at hn
  have HP := Lib.hid hP
  have Hl := Lib.hid hl
  clear hP hl
  go_enter Tryz.func196, Tryz.ntmps196
  go_wp2_with fail
  go_loop [3, 11] (fun t i => ∃ k : Nat, k ≤ PS.length ∧ i = .int .i64 k ∧ t = .int .i64 ((allOf (PS.take k)).length : Int)) (fun _ i => PS.length - (intOf i).toNat)
  case atStart => exact ⟨0, Nat.zero_le _, rfl, rfl⟩
  case round =>
    obtain ⟨k, hk, rfl, rfl⟩ := hrel
    by_cases hlt : k < PS.length
    · obtain ⟨g, o, rfl, hc, _, _, ga, gc, hv, hv1, hv2⟩ := HP.out k hlt
      have HS := Lib.hid (congrArg List.length (allOf_take_succ PS k hlt))
      have hs1 := allOf_take_le PS k
      have hs2 := allOf_take_le PS (k + 1)
      have hs3 : (allOf (PS.take (k + 1))).length = (allOf (PS.take k)).length + (PS[k].2).length := by rw [HS.out, List.length_append]
      have hs4 : (((allOf (PS.take k)).length : Nat) : Int) + (((PS[k].2).length : Nat) : Int) ≤ 140737488355328 := by have := Hl.out; omega
      have HS3 := Lib.hid hs3
      rw [hv] at hc
      clear hs3 hv
      generalize (allOf (PS.take k)).length = m at *
      generalize (PS[k].2).length = m2 at *
      go_wp2_with fail
      exact ⟨⟨k + 1, by omega, by go_num, by rw [HS3.out]; go_num⟩, by simp [intOf]; omega⟩
    · obtain rfl : k = PS.length := by omega
      have hl := Hl.out
      have HT := Lib.hid (show allOf (PS.take PS.length) = allOf PS by rw [List.take_length])
      rw [HT.out]
      obtain ⟨i0, hi, hz0, hz1, hz2⟩ := info_parts info_u
      have hm0 : (0 : Int) ≤ ((allOf PS).length : Int) := by omega
      clear HT
      obtain ⟨n, hn2⟩ : ∃ n, (allOf PS).length = n := ⟨_, rfl⟩
      rw [hn2] at hm0 hl ⊢
      have Hn2 := Lib.hid hn2
      clear hn2
      go_wp2_with fail
      refine (show Calls Tryz.prog 227 #[.slice none 0 0, .int .i64 (n : Int)] w fun e w' => ∃ v, e = .returned v ∧ Own w w' [rowU v []] from ?_).mono ?_
      · rcases Nat.eq_zero_or_pos n with h0 | h0
        · rw [h0]; exact (grow_zero w).mono fun e w' ⟨h1, h2⟩ => ⟨_, h1, h2 ▸ (Own.start w).nil _ _⟩
        · exact grow_pos n w h0 hl
      rintro e w1 ⟨v, rfl, hO1⟩
      have HO1 := Lib.hid hO1
      obtain ⟨va, vc, rfl, _, _⟩ := Own.sized (h := hO1)
      clear hO1
      go_wp2_with fail
      go_loopw [6, 27] (fun t i wr => ∃ k : Nat, k ≤ PS.length ∧ i = .int .i64 k ∧ Own w wr [rowU t (allOf (PS.take k))]) (fun _ i _ => PS.length - (intOf i).toNat)
      case atStart => exact ⟨0, Nat.zero_le _, rfl, HO1.out⟩
      case round =>
        obtain ⟨k, hk, rfl, hO⟩ := hrel
        by_cases hlt : k < PS.length
        · obtain ⟨g, o, rfl, hc, hy⟩ := (HP.out.later hO.below) k hlt
          have hys := hy.1
          have HS := Lib.hid (allOf_take_succ PS k hlt)
          have hs2 := allOf_take_le PS (k + 1)
          have hs3 : (allOf (PS.take (k + 1))).length = (allOf (PS.take k)).length + (PS[k].2).length := by rw [HS.out, List.length_append]
          have hsum : (allOf (PS.take k)).length + (PS[k].2).length ≤ 140737488355328 := by have := Hl.out; omega
          have Hsum := Lib.hid hsum
          have HO := Lib.hid hO
          have Hys := Lib.hid hys
          clear hs2 hs3 hO hy hys hsum
          generalize PS[k].2 = zk at *
          generalize PS[k].1 = vk at *
          go_wp2_with (at_builtin; refine wpList_append_src rfl (.tmp 31) (.tmp 32) 224 rfl _ (allOf (PS.take k)).length (bs (allOf (PS.take k))) vk zk.length (bs zk) rfl rfl HO.out i0 (.int .u8 0) 1 Tryz.underlying224 hi hz0 hz1 hz2 rfl (by decide) Hys.out (by rw [bs_length, Nat.mul_one]) (by have := Hsum.out; unfold maxLen; omega) (by have := Hsum.out; omega) ?_)
          intro v' w' hO'
          rw [← bs_append, ← HS.out] at hO'
          have HO' := Lib.hid (show Own w w' [rowU v' (allOf (PS.take (k + 1)))] by unfold rowU; rw [HS.out, List.length_append, ← HS.out]; exact hO')
          clear hO' Hsum
          go_wp2_with fail
          exact ⟨⟨k + 1, by omega, by go_num, HO'.out⟩, by simp [intOf]; omega⟩
        · obtain rfl : k = PS.length := by omega
          rw [List.take_length] at hO
          have HO := Lib.hid hO
          clear hO
          go_wp2_with fail
          go_ret
          exact ⟨_, rfl, HO.out⟩
theorem cell_of_block {w : World} {g : Nat} {C : Array Value} {e : TypeId} {mk : Nat × Nat} (h : w.heap[g]? = some (.cells C e mk)) (j : Nat) : w.cell? ⟨g, j, none⟩ = C[j]? := by
  unfold World.cell?
  rw [h]
  rfl
theorem parts_list (w : World) (T : TypeId) (PS : List (Value × List Int)) (h : ∀ p ∈ PS, By w p.1 p.2) (H : Nat) (hH : H = w.heap.size) : Parts (w.alloc (.cells (PS.map (·.1)).toArray T)) (some ⟨H, 0, none⟩) PS := by
  subst hH
  intro i hi
  refine ⟨w.heap.size, 0, rfl, ?_, (h _ (List.getElem_mem hi)).later (Below.alloc (Below.refl _ _) (Nat.le_refl _) _)⟩
  rw [Nat.zero_add]
  have h1 : (w.alloc (.cells (PS.map (·.1)).toArray T)).heap[w.heap.size]? = some (.cells (PS.map (·.1)).toArray T) := heap_alloc_new w _
  rw [cell_of_block h1]
  simp [hi]
theorem allOf_two (u v : Value) (a b : List Int) : allOf [(u, a), (v, b)] = a ++ b := by simp [allOf]
theorem pack_any (a : Option Addr) (c : Nat) (PS : List (Value × List Int)) (w : World) (hP : Parts w a PS) (hn : PS.length ≤ maxLen) (hl : (allOf PS).length ≤ 140737488355328) :
    Calls Tryz.prog 143 #[.slice a PS.length c] w fun e w' => ∃ v, e = .returned v ∧ Own w w' [rowU v (allOf PS)] := by
  have HP := Lib.hid hP
  have Hl := Lib.hid hl
  clear hP hl
  go_enter Tryz.func143, Tryz.ntmps143
  go_wp2_with fail
  refine (concat_any a c PS _ HP.out hn Hl.out).mono ?_
  rintro e w1 ⟨v, rfl, hO⟩
  have HO := Lib.hid hO
  clear hO
  go_wp2_with fail
  go_ret
  exact ⟨_, rfl, HO.out⟩
def sizedL (zs : List Int) : List Int := le4 zs.length ++ zs
theorem sizedL_length (zs : List Int) : (sizedL zs).length = zs.length + 4 := by simp [sizedL, le4]
theorem sizedL_byts (zs : List Int) (h : Byts zs) (hl : zs.length < 4294967296) : Byts (sizedL zs) := (le4_byts _ (by omega) (by omega)).append h
set_option maxHeartbeats 800000 in
theorem raw_any (v : Value) (zs : List Int) (w : World) (h : By w v zs) (hl : zs.length < 4294967296) :
    Calls Tryz.prog 146 #[v] w fun e w' => ∃ v', e = .returned v' ∧ Own w w' [rowU v' (sizedL zs)] := by
  have Hy := Lib.hid h
  obtain ⟨_, _, a, c, rfl, _, _⟩ := h
  go_enter Tryz.func146, Tryz.ntmps146
  go_wp2_with fail
  refine (num_any (zs.length : Int) w (by omega) (by omega)).mono ?_
  rintro e w1 ⟨vn, rfl, hO1⟩
  have HO1 := Lib.hid hO1
  obtain ⟨na, nc, rfl, _, _⟩ := Own.sized (h := hO1)
  clear hO1
  go_wp2_with fail
  refine (pack_any (some ⟨w1.heap.size, 0, none⟩) 2 [(.slice na (le4 zs.length).length nc, le4 zs.length), (.slice a zs.length c, zs)] _ (parts_list w1 224 _ ?_ _ rfl) (by simp [maxLen]) (by rw [allOf_two]; simp [le4]; omega)).mono ?_
  · intro p hp
    rcases List.mem_cons.1 hp with rfl | hp
    · exact HO1.out.by (le4_byts _ (by omega) (by omega))
    · obtain rfl := List.mem_singleton.1 hp
      exact Hy.out.later HO1.out.below
  rintro e w2 ⟨v2, rfl, hO2⟩
  rw [allOf_two] at hO2
  have HO := Lib.hid (((HO1.out.alloc _).join hO2).only (List.mem_append_left _ (List.mem_cons_self ..)))
  clear hO2
  go_wp2_with fail
  go_ret
  exact ⟨_, rfl, HO.out⟩
theorem by_of_string (w : World) (s : ByteArray) (G : Nat) (hs : s.size ≤ G) (hG : G ≤ maxLen) (mk : Nat × Nat) :
    By (w.drew.alloc (.cells (bytesRow s G) 5 mk)) (.slice (some ⟨w.heap.size, 0, none⟩) s.size G) (sb s) := by
  have hl := sb_length s
  refine ⟨?_, sb_byts s, some ⟨w.heap.size, 0, none⟩, G, by rw [hl], by rw [hl]; exact hs, hG⟩
  rw [hl]
  refine .inr ⟨_, G, rfl, fun j u hj => ?_, bs_one _⟩
  rw [Addr.add_mid, Nat.zero_add]
  have h1 : (w.drew.alloc (.cells (bytesRow s G) 5 mk)).heap[w.heap.size]? = some (.cells (bytesRow s G) 5 mk) := heap_alloc_new w.drew _
  have hlt : j < s.size := by
    rcases Nat.lt_or_ge j s.size with h2 | h2
    · exact h2
    · rw [List.getElem?_eq_none (by rw [bs_length, hl]; exact h2)] at hj; cases hj
  have hlt' : j < s.data.size := hlt
  rw [cell_of_block h1]
  simp [bs, sb, hlt'] at hj
  obtain ⟨x, hx, rfl⟩ := hj
  obtain ⟨_, rfl⟩ := Array.getElem?_eq_some_iff.1 hx
  simp [bytesRow, Array.getElem?_append, hlt]
set_option maxHeartbeats 800000 in
theorem text_any (s : ByteArray) (w : World) (hl : s.size < 4294967296) :
    Calls Tryz.prog 150 #[.string s] w fun e w' => ∃ v', e = .returned v' ∧ Own w w' [rowU v' (sizedL (sb s))] := by
  go_enter Tryz.func150, Tryz.ntmps150
  go_wp2_with fail
  refine (num_any (s.size : Int) w (by omega) (by omega)).mono ?_
  rintro e w1 ⟨vn, rfl, hO1⟩
  have HO1 := Lib.hid hO1
  obtain ⟨na, nc, rfl, _, _⟩ := Own.sized (h := hO1)
  have hconv := run_bytes_of_string (P := Tryz.prog) w1 9 224 5 s Tryz.underlying9 Tryz.underlying224 Tryz.underlying5
  have hge : s.size ≤ grownCap w1 s.size 0 5 := grownCap_ge w1 _ _ _
  have hle : grownCap w1 s.size 0 5 ≤ maxLen := grownCap_le_maxLen w1 s.size 0 _ (by unfold maxLen; omega)
  generalize grownCap w1 s.size 0 5 = G at *
  have HB := Lib.hid (show By (w1.alloc (.cells (bytesRow s G) 5 ((bytesRow s G).size, (bytesRow s G).size + 1))) _ _ from by_of_string w1 s G hge hle ((bytesRow s G).size, (bytesRow s G).size + 1))
  have HO2 := Lib.hid (HO1.out.alloc (.cells (bytesRow s G) 5 ((bytesRow s G).size, (bytesRow s G).size + 1)))
  generalize (bytesRow s G).size = q at *
  generalize bytesRow s G = C at *
  have hP : Parts ((w1.alloc (.cells C 5 (q, q + 1))).alloc (.cells #[.slice na (le4 s.size).length nc, .slice (some ⟨w1.heap.size, 0, none⟩) s.size G] 224)).drew (some ⟨w1.heap.size + 1, 0, none⟩) [(.slice na (le4 s.size).length nc, le4 s.size), (.slice (some ⟨w1.heap.size, 0, none⟩) s.size G, sb s)] := by
    refine parts_list (w1.alloc (.cells C 5 (q, q + 1))) 224 [(.slice na (le4 s.size).length nc, le4 s.size), (.slice (some ⟨w1.heap.size, 0, none⟩) s.size G, sb s)] ?_ _ (by simp)
    intro p hp
    rcases List.mem_cons.1 hp with rfl | hp
    · exact Own.by HO2.out (le4_byts _ (by omega) (by omega))
    · obtain rfl := List.mem_singleton.1 hp
      exact HB.out
  have HP := Lib.hid hP
  clear hP
  clear hO1 hge hle HO1
  go_wp2_with fail
  refine (pack_any (some ⟨w1.heap.size + 1, 0, none⟩) 2 [(.slice na (le4 s.size).length nc, le4 s.size), (.slice (some ⟨w1.heap.size, 0, none⟩) s.size G, sb s)] _ HP.out (by simp [maxLen]) (by rw [allOf_two]; simp [le4, sb_length]; omega)).mono ?_
  rintro e w2 ⟨v2, rfl, hO3⟩
  rw [allOf_two] at hO3
  have HO := Lib.hid (((HO2.out.alloc _).drew.join hO3).only (List.mem_append_left _ (List.mem_cons_self ..)))
  clear hO3
  go_wp2_with fail
  go_ret
  exact ⟨_, rfl, by unfold sizedL; rw [sb_length]; exact HO.out⟩
end Go.Proofs.YtkhnkidggcjfeaaGreatDoor
end
section
namespace Go.Proofs.YtkhnkidggcjfeaaGreatDoor
open Go.RowKit
def rowR (r : Nat) (v : Value) (bad : Bool) : Rw := ⟨262, 2, .slice (some ⟨r, 0, none⟩) 1 1, 1, [v, .bool bad]⟩
def Pc (L : List Rw) (v : Value) (zs : List Int) : Prop :=
  ∃ a c, v = .slice a zs.length c ∧ zs.length ≤ c ∧ c ≤ maxLen ∧ Byts zs ∧
    ((a = none ∧ c = 0) ∨ ∃ g o, a = some ⟨g, o, none⟩ ∧ (zs ≠ [] → ∃ cap ys, rowU (.slice (some ⟨g, 0, none⟩) ys.length cap) ys ∈ L ∧ o + zs.length ≤ ys.length ∧ zs = (ys.drop o).take zs.length))
theorem Pc.mono {L L' : List Rw} {v : Value} {zs : List Int} (h : Pc L v zs) (hs : ∀ r ∈ L, r ∈ L') : Pc L' v zs := by
  obtain ⟨a, c, hv, h1, h2, hz, h3⟩ := h
  refine ⟨a, c, hv, h1, h2, hz, ?_⟩
  rcases h3 with h3 | ⟨g, o, ha, h3⟩
  · exact .inl h3
  · exact .inr ⟨g, o, ha, fun hne => by obtain ⟨cap, ys, hm, h4⟩ := h3 hne; exact ⟨cap, ys, hs _ hm, h4⟩⟩
theorem Pc.cons {L : List Rw} {v : Value} {zs : List Int} (h : Pc L v zs) (r : Rw) : Pc (r :: L) v zs := h.mono fun _ hm => List.mem_cons_of_mem _ hm
theorem Pc.nil (L : List Rw) : Pc L (.slice none 0 0) [] := ⟨none, 0, rfl, Nat.le_refl _, Nat.zero_le _, Byts.nil, .inl ⟨rfl, rfl⟩⟩
theorem Pc.by {W0 : Base} {w : World} {L : List Rw} {v : Value} {zs : List Int} (h : Pc L v zs) (hO : Own W0 w L) : By w v zs := by
  obtain ⟨a, c, hv, h1, h2, hz, h3⟩ := h
  refine ⟨?_, hz, a, c, hv, h1, h2⟩
  rcases h3 with ⟨rfl, rfl⟩ | ⟨g, o, rfl, h3⟩
  · have hn : zs = [] := List.eq_nil_of_length_eq_zero (by omega)
    subst hn
    exact .inl ⟨hv, rfl, rfl⟩
  · refine .inr ⟨⟨g, o, none⟩, c, hv, fun j u hj => ?_, bs_one _⟩
    have hlt : j < zs.length := by
      rcases Nat.lt_or_ge j zs.length with h2 | h2
      · exact h2
      · rw [List.getElem?_eq_none (by rw [bs_length]; exact h2)] at hj; cases hj
    have hne : zs ≠ [] := by intro e; subst e; simp at hlt
    obtain ⟨cap, ys, hm, h5, h6⟩ := h3 hne
    have hr := hO.only hm
    rw [Addr.add_mid, Own.cell (h := hr) (o + j) (by omega), ← hj]
    rw [h6]
    simp [bs, List.getElem?_take, hlt]
theorem Pc.all {W0 : Base} {w : World} {L : List Rw} {v : Value} {zs : List Int} (h : Own W0 w (rowU v zs :: L)) (hz : Byts zs) : Pc (rowU v zs :: L) v zs := by
  by_cases hn : zs.length = 0
  · have hn' : zs = [] := List.eq_nil_of_length_eq_zero hn
    subst hn'
    rcases (Own.head h).2 with ⟨h2, _⟩ | ⟨g, cp, cur, h2, _, _, h3, h4, _⟩
    · have h2' : v = .slice none 0 0 := h2
      exact ⟨none, 0, h2', Nat.le_refl _, Nat.zero_le _, Byts.nil, .inl ⟨rfl, rfl⟩⟩
    · exact ⟨_, cp, h2, h3, h4, Byts.nil, .inr ⟨g, 0, rfl, fun hne => absurd rfl hne⟩⟩
  · obtain ⟨g, cap, hv, _, _, h1, h2⟩ := Own.form (h := h) (by omega)
    have hv' : v = .slice (some ⟨g, 0, none⟩) zs.length cap := hv
    refine ⟨_, cap, hv', h1, h2, hz, .inr ⟨g, 0, rfl, fun _ => ⟨cap, zs, by rw [← hv']; exact List.mem_cons_self .., by omega, by simp⟩⟩⟩
theorem Pc.form {L : List Rw} {v : Value} {zs : List Int} (h : Pc L v zs) : ∃ a k c, v = .slice a k c := by
  obtain ⟨a, c, hv, _⟩ := h
  exact ⟨_, _, _, hv⟩
theorem Pc.byts {L : List Rw} {v : Value} {zs : List Int} (h : Pc L v zs) : Byts zs := by
  obtain ⟨a, c, hv, h1, h2, hz, h3⟩ := h
  exact hz
set_option maxHeartbeats 800000 in
set_option maxRecDepth 100000 in
theorem clone_any (v : Value) (zs : List Int) (w : World) (h : By w v zs) (hl : zs.length ≤ 140737488355328) :
    Calls Tryz.prog 103 #[v] w fun e w' => ∃ v', e = .returned v' ∧ Own w w' [rowU v' zs] := by
  obtain ⟨i0, hi, hz0, hz1, hz2⟩ := info_parts info_u
  have Hy := Lib.hid h
  obtain ⟨hs, hz, a, c, rfl, _, _⟩ := h
  have hnil := Lib.run_eql_slice_nil (P := Tryz.prog) w 38 5 a zs.length c 0 0 Tryz.underlying38
  cases a with
  | none =>
    have hn : zs.length = 0 := by
      rcases hs with ⟨_, h0, _⟩ | ⟨ad, c', hv', _⟩
      · exact h0
      · injection hv' with e1 e2 e3; cases e1
    have hn' : zs = [] := List.eq_nil_of_length_eq_zero hn
    subst hn'
    have hnil : Sem.run Tryz.prog (binOp BinOp.eql 38 (.slice none 0 c) (.slice none 0 0)) w = .ok (.bool true) w := hnil
    clear hs hn hz
    go_enter Tryz.func103, Tryz.ntmps103
    go_wp2_with fail
    go_ret
    exact ⟨_, rfl, (Own.start w).nil _ _⟩
  | some ad =>
    have hnil : Sem.run Tryz.prog (binOp BinOp.eql 38 (.slice (some ad) zs.length c) (.slice none 0 0)) w = .ok (.bool false) w := hnil
    have HO := Lib.hid ((Own.start w).made 5 1 #[] 0 rfl (Nat.zero_le _))
    have Hs := Lib.hid (hs.later (Below.alloc (Below.refl _ w) (Nat.le_refl _) (.cells #[] 5)))
    clear hs hz
    go_enter Tryz.func103, Tryz.ntmps103
    go_wp2_with (at_builtin; refine wpList_append_src rfl (.tmp 5) (.tmp 6) 38 rfl (.slice (some ⟨w.heap.size, 0, none⟩) 0 0) 0 [] (.slice (some ad) zs.length c) zs.length (bs zs) rfl rfl HO.out i0 (.int .u8 0) 1 Tryz.underlying38 hi hz0 hz1 hz2 rfl (by decide) Hs.out (by rw [bs_length, Nat.mul_one]) (by unfold maxLen; omega) (by omega) ?_)
    intro v' w' hO'
    have HO' := Lib.hid hO'
    clear hO'
    go_wp2_with fail
    go_ret
    exact ⟨_, rfl, HO'.out⟩
theorem zero_reader (w : World) : Sem.run Tryz.prog (zeroValue 262) w = .ok (.agg #[.slice none 0 0, .bool false]) w := by kernel_rfl
set_option maxHeartbeats 800000 in
theorem rread_any (v : Value) (zs : List Int) (w : World) (h : By w v zs) (hl : zs.length ≤ 140737488355328) :
    Calls Tryz.prog 118 #[v] w fun e w' => ∃ r v', e = .returned (.pointer (some ⟨r, 0, none⟩)) ∧ Own w w' [rowR r v' false, rowU v' zs] ∧ Pc [rowU v' zs] v' zs := by
  have hz := h.2.1
  have Hy := Lib.hid h
  obtain ⟨_, _, a, c, rfl, _, _⟩ := h
  have hzr := zero_reader
  go_enter Tryz.func118, Tryz.ntmps118
  go_wp2_with fail
  refine (clone_any _ zs w Hy.out hl).mono ?_
  rintro e w1 ⟨v1, rfl, hO⟩
  have HO := Lib.hid hO
  obtain ⟨a1, c1, rfl, _, _⟩ := Own.sized (h := hO)
  clear hO
  go_wp2_with fail
  go_ret
  exact ⟨_, _, rfl, HO.out.made 262 2 #[.slice a1 zs.length c1, .bool false] 1 rfl (by unfold maxLen; decide), Pc.all HO.out hz⟩
theorem reader_cells {W0 : Base} {w : World} {r : Nat} {v : Value} {bad : Bool} {L : List Rw} (h : Own W0 w (rowR r v bad :: L)) :
    w.cell? ⟨r, 0, none⟩ = some v ∧ w.cell? ⟨r, 1, none⟩ = some (.bool bad) ∧ w.frozen? ⟨r, 0, none⟩ = false ∧ w.frozen? ⟨r, 1, none⟩ = false :=
  ⟨Own.cell (h := h) 0 (by decide), Own.cell (h := h) 1 (by decide), Own.free (h := h) 0, Own.free (h := h) 1⟩
theorem reader_set0 {W0 : Base} {w : World} {r : Nat} {v : Value} {bad : Bool} {L : List Rw} (h : Own W0 w (rowR r v bad :: L)) (u : Value) : Own W0 (w.setCell ⟨r, 0, none⟩ u) (rowR r u bad :: L) := Own.set (h := h) 0 u
theorem Pc.head {L : List Rw} {g o c : Nat} {zs : List Int} (h : Pc L (.slice (some ⟨g, o, none⟩) zs.length c) zs) (n : Nat) (hn : n ≤ zs.length) : Pc L (.slice (some ⟨g, o, none⟩) n c) (zs.take n) := by
  obtain ⟨a, c', hv, h1, h2, hz, h3⟩ := h
  injection hv with e1 e2 e3
  subst e1 e3
  have hl : (zs.take n).length = n := by rw [List.length_take]; omega
  refine ⟨_, c, by rw [hl], by omega, h2, hz.take n, ?_⟩
  rcases h3 with ⟨h3, _⟩ | ⟨g', o', ha, h3⟩
  · cases h3
  · injection ha with ha
    injection ha with e1 e2 e3
    subst e1 e2
    refine .inr ⟨g, o, rfl, fun hne => ?_⟩
    obtain ⟨cap, ys, hm, h4, h5⟩ := h3 (by intro e; subst e; simp at hne)
    refine ⟨cap, ys, hm, by omega, ?_⟩
    rw [hl]
    conv => lhs; rw [h5]
    rw [List.take_take, Nat.min_eq_left hn]
theorem Pc.rest {L : List Rw} {g o c : Nat} {zs : List Int} (h : Pc L (.slice (some ⟨g, o, none⟩) zs.length c) zs) (n k : Nat) (hn : n ≤ zs.length) (hk : k = zs.length - n) : Pc L (.slice (some ⟨g, o + n, none⟩) k (c - n)) (zs.drop n) := by
  subst hk
  obtain ⟨a, c', hv, h1, h2, hz, h3⟩ := h
  injection hv with e1 e2 e3
  subst e1 e3
  have hl : (zs.drop n).length = zs.length - n := List.length_drop
  refine ⟨_, c - n, by rw [hl], by omega, by omega, hz.drop n, ?_⟩
  rcases h3 with ⟨h3, _⟩ | ⟨g', o', ha, h3⟩
  · cases h3
  · injection ha with ha
    injection ha with e1 e2 e3
    subst e1 e2
    refine .inr ⟨g, o + n, rfl, fun hne => ?_⟩
    obtain ⟨cap, ys, hm, h4, h5⟩ := h3 (by intro e; subst e; simp at hne)
    refine ⟨cap, ys, hm, by omega, ?_⟩
    rw [hl]
    conv => lhs; rw [h5]
    rw [List.drop_take, List.drop_drop]
theorem Pc.empty (L : List Rw) (g o c : Nat) (hc : c ≤ maxLen) : Pc L (.slice (some ⟨g, o, none⟩) 0 c) [] := ⟨_, c, rfl, Nat.zero_le _, hc, Byts.nil, .inr ⟨g, o, rfl, fun h => absurd rfl h⟩⟩
set_option maxHeartbeats 1600000 in
theorem take_yes (W0 : Base) (w : World) (r : Nat) (v : Value) (bad : Bool) (L : List Rw) (zs : List Int) (n : Nat) (h : Own W0 w (rowR r v bad :: L)) (hp : Pc L v zs) (hn : n ≤ zs.length) :
    Calls Tryz.prog 218 #[.pointer (some ⟨r, 0, none⟩), .int .i64 (n : Int)] w fun e w' => ∃ v1 v2, e = .returned (.tuple #[v1, .bool true]) ∧ Own W0 w' (rowR r v2 bad :: L) ∧ Pc L v1 (zs.take n) ∧ Pc L v2 (zs.drop n) := by
  have Hp := Lib.hid hp
  obtain ⟨a, c, rfl, hzc, hcm, _, h3⟩ := hp
  unfold maxLen at hcm
  obtain ⟨c0, c1, f0, f1⟩ := reader_cells h
  rcases h3 with ⟨rfl, rfl⟩ | ⟨g, o, rfl, _⟩
  · have hz : zs = [] := List.eq_nil_of_length_eq_zero (by omega)
    subst hz
    obtain rfl : n = 0 := by simpa using hn
    have HN := Lib.hid (reader_set0 h (.slice none 0 0))
    clear h hn
    go_enter Tryz.func218, Tryz.ntmps218
    go_wp2_with fail
    go_ret2
    exact ⟨_, _, rfl, HN.out, Pc.nil L, Pc.nil L⟩
  · by_cases hcn : c = n
    · subst hcn
      have hzn : zs.length = c := by omega
      have hd : zs.drop c = [] := List.drop_of_length_le (by omega)
      have HN := Lib.hid (reader_set0 h (.slice (some ⟨g, o, none⟩) 0 0))
      have Hd := Lib.hid hd
      have Hzn := Lib.hid hzn
      clear h hd hzn
      go_enter Tryz.func218, Tryz.ntmps218
      go_wp2_with fail
      go_ret2
      have hp1 := Hp.out.head c (by omega)
      exact ⟨_, _, rfl, HN.out, hp1, by rw [Hd.out]; exact Pc.empty L g o 0 (Nat.zero_le _)⟩
    · have HN := Lib.hid (reader_set0 h (.slice (some ⟨g, o + n, none⟩) (zs.length - n) (c - n)))
      clear h
      go_enter Tryz.func218, Tryz.ntmps218
      go_wp2_with fail
      go_ret2
      exact ⟨_, _, rfl, HN.out, Hp.out.head n hn, Hp.out.rest n _ hn rfl⟩
def num4 (zs : List Int) : Int := zs.getD 0 0 + 256 * zs.getD 1 0 + 65536 * zs.getD 2 0 + 16777216 * zs.getD 3 0
theorem num4_bounds (zs : List Int) (h : Byts zs) : 0 ≤ num4 zs ∧ num4 zs < 4294967296 := by
  have hb : ∀ i, 0 ≤ zs.getD i 0 ∧ zs.getD i 0 < 256 := by
    intro i
    rw [List.getD_eq_getElem?_getD]
    cases hi : zs[i]? with
    | none => exact ⟨by decide, by decide⟩
    | some z => exact h z (List.mem_of_getElem? hi)
  have h0 := hb 0; have h1 := hb 1; have h2 := hb 2; have h3 := hb 3
  unfold num4
  omega
theorem num4_take (zs : List Int) (h : 4 ≤ zs.length) : num4 (zs.take 4) = num4 zs := by
  unfold num4
  simp [List.getD_eq_getElem?_getD, List.getElem?_take]
theorem i64_or_nat (a b : Nat) (ha : a < 4611686018427387904) (hb : b < 4611686018427387904) : bits .or .i64 (a : Int) (b : Int) = ((a ||| b : Nat) : Int) := by
  have hx : a ||| b < 2 ^ 62 := Nat.or_lt_two_pow (by omega) (by omega)
  have h1 : (BitVec.ofInt 64 (a : Int)).toNat = a := by
    rw [BitVec.ofInt_natCast, BitVec.toNat_ofNat]; exact Nat.mod_eq_of_lt (by omega)
  have h2 : (BitVec.ofInt 64 (b : Int)).toNat = b := by
    rw [BitVec.ofInt_natCast, BitVec.toNat_ofNat]; exact Nat.mod_eq_of_lt (by omega)
  show IntKind.i64.wrap ((BitVec.ofInt 64 (a : Int) ||| BitVec.ofInt 64 (b : Int)).toNat : Int) = _
  rw [BitVec.toNat_or, h1, h2, IntKind.wrap_i64]
  omega
theorem or_join (i : Nat) (m : Nat) (hm : m = 2 ^ i) (x y : Int) (h0 : 0 ≤ x) (h1 : x < (m : Int)) (h2 : 0 ≤ y) (h3 : y < 256) (h4 : (m : Int) ≤ 16777216) : bits .or .i64 x (y * (m : Int)) = x + y * (m : Int) := by
  obtain ⟨X, rfl⟩ := Int.eq_ofNat_of_zero_le h0
  obtain ⟨Y, rfl⟩ := Int.eq_ofNat_of_zero_le h2
  have hY : Y * m ≤ 256 * m := Nat.mul_le_mul_right _ (by omega)
  rw [show ((Y : Int) * (m : Int)) = ((Y * m : Nat) : Int) from by simp, i64_or_nat X (Y * m) (by omega) (by omega), Nat.or_comm, nat_join i (Y * m) X (by rw [hm]; exact Nat.mul_mod_left _ _) (by omega)]
  omega
theorem or_four (z0 z1 z2 z3 : Int) (b0 : 0 ≤ z0 ∧ z0 < 256) (b1 : 0 ≤ z1 ∧ z1 < 256) (b2 : 0 ≤ z2 ∧ z2 < 256) (b3 : 0 ≤ z3 ∧ z3 < 256) :
    bits .or .i64 (bits .or .i64 (bits .or .i64 z0 (z1 * 256)) (z2 * 65536)) (z3 * 16777216) = num4 [z0, z1, z2, z3] := by
  have e1 := or_join 8 256 rfl z0 z1 b0.1 (by omega) b1.1 b1.2 (by decide)
  have e2 := or_join 16 65536 rfl (z0 + z1 * 256) z2 (by omega) (by omega) b2.1 b2.2 (by decide)
  have e3 := or_join 24 16777216 rfl (z0 + z1 * 256 + z2 * 65536) z3 (by omega) (by omega) b3.1 b3.2 (by decide)
  simp only [Int.cast_ofNat_Int] at e1 e2 e3
  rw [e1, e2, e3]
  simp [num4]
  omega
set_option maxHeartbeats 1600000 in
theorem number_yes (W0 : Base) (w : World) (r : Nat) (v : Value) (bad : Bool) (L : List Rw) (zs : List Int) (most : Int) (h : Own W0 w (rowR r v bad :: L)) (hp : Pc L v zs) (hn : 4 ≤ zs.length) (hm : num4 zs ≤ most) :
    Calls Tryz.prog 180 #[.pointer (some ⟨r, 0, none⟩), .int .i64 most] w fun e w' => ∃ v', e = .returned (.tuple #[.int .i64 (num4 zs), .bool true]) ∧ Own W0 w' (rowR r v' bad :: L) ∧ Pc L v' (zs.drop 4) := by
  have hz4 := num4_take zs hn
  have hnb := num4_bounds zs hp.byts
  obtain ⟨n, hn4⟩ : ∃ n, num4 zs = n := ⟨_, rfl⟩
  rw [hn4] at hm hz4 hnb ⊢
  have Hz4 := Lib.hid hz4
  clear hn4 hz4
  have Hp := Lib.hid hp
  have H := Lib.hid h
  clear h hp
  go_enter Tryz.func180, Tryz.ntmps180
  go_wp2_with fail
  refine (take_yes W0 w r v bad L zs 4 H.out Hp.out hn).mono ?_
  rintro e w1 ⟨v1, v2, rfl, hO, hp1, hp2⟩
  have HO := Lib.hid hO
  have Hp2 := Lib.hid hp2
  obtain ⟨g, o, c, rfl, _, _, hc⟩ := (hp1.by hO.tail).cells (by rw [List.length_take]; omega)
  have hl4 : (zs.take 4).length = 4 := by rw [List.length_take]; omega
  have hby := hp1.byts
  generalize zs.take 4 = ys at *
  obtain ⟨z0, z1, z2, z3, rfl⟩ : ∃ z0 z1 z2 z3, ys = [z0, z1, z2, z3] := by
    match ys, hl4 with
    | [a, b, c, d], _ => exact ⟨a, b, c, d, rfl⟩
  have k0 := hc 0 (by simp)
  have k1 := hc 1 (by simp)
  have k2 := hc 2 (by simp)
  have k3 := hc 3 (by simp)
  simp only [List.getElem_cons_zero, List.getElem_cons_succ, Nat.add_zero] at k0 k1 k2 k3
  have b0 := hby z0 (by simp)
  have b1 := hby z1 (by simp)
  have b2 := hby z2 (by simp)
  have b3 := hby z3 (by simp)
  clear hO hp1 hp2 hc hby
  clear hl4
  go_wp2_with fail
  go_quiet (fail)
  rw [or_four z0 z1 z2 z3 b0 b1 b2 b3, Hz4.out]
  clear k0 k1 k2 k3 b0 b1 b2 b3
  go_wp2_with fail
  go_ret2
  exact ⟨_, rfl, HO.out.drewN, Hp2.out⟩
def isSized (zs : List Int) (most : Int) : Prop := 4 ≤ zs.length ∧ num4 zs ≤ most ∧ num4 zs ≤ (zs.length : Int) - 4
def bodyOf (zs : List Int) : List Int := (zs.drop 4).take (num4 zs).toNat
def restOf (zs : List Int) : List Int := (zs.drop 4).drop (num4 zs).toNat
set_option maxHeartbeats 1600000 in
theorem sized_yes (W0 : Base) (w : World) (r : Nat) (v : Value) (bad : Bool) (L : List Rw) (zs : List Int) (most : Int) (h : Own W0 w (rowR r v bad :: L)) (hp : Pc L v zs) (hs : isSized zs most) :
    Calls Tryz.prog 179 #[.pointer (some ⟨r, 0, none⟩), .int .i64 most] w fun e w' => ∃ v1 v2, e = .returned (.tuple #[v1, .bool true]) ∧ Own W0 w' (rowR r v2 bad :: L) ∧ Pc L v1 (bodyOf zs) ∧ Pc L v2 (restOf zs) := by
  have Hp := Lib.hid hp
  have H := Lib.hid h
  obtain ⟨s1, s2, s3⟩ := hs
  have hb := num4_bounds zs hp.byts
  obtain ⟨n, hn⟩ : ∃ n : Nat, num4 zs = n := ⟨(num4 zs).toNat, by omega⟩
  unfold bodyOf restOf
  rw [hn] at s2 s3 hb ⊢
  rw [Int.toNat_natCast]
  have Hn := Lib.hid hn
  clear h hp hn
  go_enter Tryz.func179, Tryz.ntmps179
  go_wp2_with fail
  refine (number_yes W0 w r v bad L zs most H.out Hp.out s1 (by rw [Hn.out]; exact s2)).mono ?_
  rintro e w1 ⟨v1, rfl, hO, hp1⟩
  rw [Hn.out]
  have HO := Lib.hid hO
  have Hp1 := Lib.hid hp1
  clear hO hp1
  go_wp2_with fail
  refine (take_yes W0 w1 r v1 bad L _ n HO.out Hp1.out (by rw [List.length_drop]; omega)).mono ?_
  rintro e w2 ⟨v2, v3, rfl, hO2, hp2, hp3⟩
  have HO2 := Lib.hid hO2
  have Hp2 := Lib.hid hp2
  have Hp3 := Lib.hid hp3
  obtain ⟨a2, k2, c2, rfl⟩ := hp2.form
  clear hO2 hp2 hp3
  go_wp2_with fail
  go_ret2
  exact ⟨_, _, rfl, HO2.out, Hp2.out, Hp3.out⟩
set_option maxHeartbeats 1600000 in
theorem rnum_any (W0 : Base) (w : World) (r : Nat) (v : Value) (bad : Bool) (L : List Rw) (zs : List Int) (most : Int) (h : Own W0 w (rowR r v bad :: L)) (hp : Pc L v zs) (hs : 4 ≤ zs.length ∧ num4 zs ≤ most) :
    Calls Tryz.prog 120 #[.pointer (some ⟨r, 0, none⟩), .int .i64 most] w fun e w' => ∃ v', e = .returned (.int .i64 (num4 zs)) ∧ Own W0 w' (rowR r v' bad :: L) ∧ Pc L v' (zs.drop 4) := by
  have Hc := Lib.hid (number_yes W0 w r v bad L zs most h hp hs.1 hs.2)
  clear h hp hs
  go_enter Tryz.func120, Tryz.ntmps120
  go_wp2_with fail
  refine Hc.out.mono ?_
  rintro e w1 ⟨v1, rfl, hO, hp1⟩
  have HO := Lib.hid hO
  have Hp1 := Lib.hid hp1
  clear hO hp1
  go_wp2_with fail
  go_ret
  exact ⟨_, rfl, HO.out, Hp1.out⟩
theorem By.toStr {w : World} {v : Value} {zs : List Int} (h : By w v zs) : (convert 38 9 v).run Tryz.prog w = .ok (.string (strOfNums zs)) w := by
  by_cases hn : 0 < zs.length
  · obtain ⟨g, o, c, rfl, _, _, hc⟩ := h.cells hn
    refine run_convert_bytes_arg w 38 5 Tryz.underlying38 Tryz.underlying5 g o zs.length c zs rfl (fun i hi => ?_) 9 Tryz.underlying9
    rw [hc i hi, List.getD_eq_getElem?_getD, List.getElem?_eq_getElem hi]
    rfl
  · have hz : zs = [] := List.eq_nil_of_length_eq_zero (by omega)
    subst hz
    rcases h.1 with ⟨rfl, _, _⟩ | ⟨ad, c, rfl, _⟩
    · exact run_convert_bytes_nil w 38 5 Tryz.underlying38 Tryz.underlying5 0 0 9 Tryz.underlying9
    · have := run_convert_bytes_back w 38 9 5 ad c [] Tryz.underlying38 Tryz.underlying5 Tryz.underlying9 (fun j hj => by simp at hj)
      exact this
set_option maxHeartbeats 1600000 in
theorem rtext_yes (W0 : Base) (w : World) (r : Nat) (v : Value) (bad : Bool) (L : List Rw) (zs : List Int) (most : Int) (h : Own W0 w (rowR r v bad :: L)) (hp : Pc L v zs) (hs : isSized zs most) :
    Calls Tryz.prog 119 #[.pointer (some ⟨r, 0, none⟩), .int .i64 most] w fun e w' => ∃ v2, e = .returned (.string (strOfNums (bodyOf zs))) ∧ Own W0 w' (rowR r v2 bad :: L) ∧ Pc L v2 (restOf zs) := by
  have Hc := Lib.hid (sized_yes W0 w r v bad L zs most h hp hs)
  clear h hp hs
  go_enter Tryz.func119, Tryz.ntmps119
  go_wp2_with fail
  refine Hc.out.mono ?_
  rintro e w1 ⟨v1, v2, rfl, hO, hp1, hp2⟩
  have HO := Lib.hid hO
  have Hp2 := Lib.hid hp2
  have hcv := (hp1.by hO.tail).toStr
  obtain ⟨a1, k1, c1, rfl⟩ := hp1.form
  clear hO hp1 hp2
  go_wp2_with fail
  go_ret
  exact ⟨_, rfl, HO.out, Hp2.out⟩
end Go.Proofs.YtkhnkidggcjfeaaGreatDoor
end
section
namespace Go.Proofs.YtkhnkidggcjfeaaGreatDoor
open Go.RowKit
def nx (s : BitVec 32) : BitVec 32 := (s >>> 1) ^^^ (3988292384#32 &&& -(s &&& 1#32))
def nxs : Nat → BitVec 32 → BitVec 32
  | 0, s => s
  | k + 1, s => nx (nxs k s)
def nextB (s : BitVec 32) (b : Int) : BitVec 32 := nxs 8 (s ^^^ BitVec.ofInt 32 b)
def rest (s : BitVec 32) (bs : List Int) : BitVec 32 := bs.foldl nextB s
def ones : BitVec 32 := BitVec.allOnes 32
def crc (bs : List Int) : BitVec 32 := ~~~ rest ones bs
theorem toNat_ofInt (b : Int) (h0 : 0 ≤ b) (h : b < 4294967296) : ((BitVec.ofInt 32 b).toNat : Int) = b := by
  rw [BitVec.toNat_ofInt]; omega
theorem xor32 (s t : BitVec 32) : bits .xor .u32 (s.toNat : Int) (t.toNat : Int) = ((s ^^^ t).toNat : Int) := by
  rw [u32_xor_nat _ _ s.isLt t.isLt, BitVec.toNat_xor]
theorem and32 (s t : BitVec 32) : bits .and .u32 (s.toNat : Int) (t.toNat : Int) = ((s &&& t).toNat : Int) := by
  rw [u32_and_nat _ _ s.isLt t.isLt, BitVec.toNat_and]
theorem neg32 (s : BitVec 32) : (-(s.toNat : Int)) % 4294967296 = ((-s).toNat : Int) := by
  rw [BitVec.toNat_neg]
  have := s.isLt
  omega
theorem half32 (s : BitVec 32) : (s.toNat : Int) / (2 : Int) = ((s >>> 1).toNat : Int) := by
  rw [BitVec.toNat_ushiftRight, Nat.shiftRight_eq_div_pow]; exact (Int.natCast_ediv _ _).symm
theorem step32 (s : BitVec 32) : bits .xor .u32 ((s.toNat : Int) / (2 : Int)) (bits .and .u32 3988292384 (-bits .and .u32 (s.toNat : Int) 1 % 4294967296)) = ((nx s).toNat : Int) := by
  have e1 : bits .and .u32 (s.toNat : Int) 1 = ((s &&& 1#32).toNat : Int) := by rw [← and32]; rfl
  rw [e1, neg32, half32]
  have e2 : (3988292384 : Int) = ((3988292384#32 : BitVec 32).toNat : Int) := rfl
  rw [e2, and32, xor32]
  rfl
theorem start32 (s : BitVec 32) (b : Int) (h0 : 0 ≤ b) (h : b < 256) : bits .xor .u32 (s.toNat : Int) b = ((s ^^^ BitVec.ofInt 32 b).toNat : Int) := by
  rw [← xor32, toNat_ofInt b h0 (by omega)]
theorem not32 (s : BitVec 32) : bits .xor .u32 IntKind.u32.max (s.toNat : Int) = ((~~~ s).toNat : Int) := by
  have e : IntKind.u32.max = (((BitVec.allOnes 32).toNat : Nat) : Int) := rfl
  rw [e, xor32, BitVec.allOnes_xor]
theorem u32_congr {a b : BitVec 32} (h : a = b) : Value.int .u32 (a.toNat : Int) = .int .u32 (b.toNat : Int) := by rw [h]
theorem u32_of (s : BitVec 32) : 0 ≤ (s.toNat : Int) ∧ (s.toNat : Int) < 4294967296 := ⟨by omega, by have := s.isLt; omega⟩
end Go.Proofs.YtkhnkidggcjfeaaGreatDoor
end
section
namespace Go.Proofs.YtkhnkidggcjfeaaGreatDoor
open Go.RowKit
set_option maxHeartbeats 400000 in
theorem next_any (s : BitVec 32) (b : Int) (w : World) (hb0 : 0 ≤ b) (hb : b < 256) :
    Calls Tryz.prog 197 #[.int .u32 (s.toNat : Int), .int .u8 b] w fun e w' => e = .returned (.int .u32 ((nextB s b).toNat : Int)) ∧ w = w' := by
  go_enter Tryz.func197, Tryz.ntmps197
  go_wp2
  go_loop [0, 9] (fun t i => ∃ k : Nat, k ≤ 8 ∧ i = .int .i64 k ∧ t = .int .u32 ((nxs k (s ^^^ BitVec.ofInt 32 b)).toNat : Int)) (fun _ i => 8 - (intOf i).toNat)
  case atStart => exact ⟨0, by omega, rfl, by rw [start32 s b hb0 hb]; rfl⟩
  case round =>
    obtain ⟨k, hk, rfl, rfl⟩ := hrel
    by_cases hlt : k < 8
    · go_wp2
      go_round
      case rel => exact ⟨k + 1, by omega, by go_num, by rw [step32]; rfl⟩
      case measure => simp [intOf]; omega
    · obtain rfl : k = 8 := by omega
      go_wp2
      go_ret
      exact ⟨rfl, rfl⟩
end Go.Proofs.YtkhnkidggcjfeaaGreatDoor
end
section
namespace Go.Proofs.YtkhnkidggcjfeaaGreatDoor
open Go.RowKit
def IsBytes (w : World) (v : Value) (zs : List Int) : Prop :=
  ∃ (a : Option Addr) (cap : Nat), v = .slice a zs.length cap ∧ (zs.length ≤ cap ∧ cap ≤ 9223372036854775807 ∧ (a = none → cap = 0)) ∧ (zs ≠ [] → ∃ b off, a = some ⟨b, off, none⟩ ∧ ∀ j, j < zs.length → w.cell? ⟨b, off + j, none⟩ = some (.int .u8 (zs.getD j 0))) ∧ ∀ n ∈ zs, 0 ≤ n ∧ n < 256
theorem rest_take (s : BitVec 32) (zs : List Int) (k : Nat) (h : k < zs.length) : rest s (zs.take (k + 1)) = nextB (rest s (zs.take k)) zs[k] := by
  rw [List.take_add_one, List.getElem?_eq_getElem h]
  unfold rest
  rw [List.foldl_append]
  rfl
theorem take_rows (rs : List (Value × List Int)) (k : Nat) (h : k < rs.length) : rest ones (((rs.take (k + 1)).map (·.2)).flatten) = rest (rest ones (((rs.take k).map (·.2)).flatten)) rs[k].2 := by
  rw [List.take_add_one, List.getElem?_eq_getElem h]
  unfold rest
  rw [List.map_append, List.flatten_append, List.foldl_append]
  simp
set_option maxHeartbeats 800000 in
theorem of_any (R cap : Nat) (rs : List (Value × List Int)) (w : World) (hn : rs.length ≤ 1000) (hR : ∀ i (h : i < rs.length), w.cell? ⟨R, i, none⟩ = some rs[i].1 ∧ IsBytes w rs[i].1 rs[i].2) :
    Calls Tryz.prog 145 #[.slice (some ⟨R, 0, none⟩) rs.length cap] w fun e w' => e = .returned (.int .u32 ((crc ((rs.map (·.2)).flatten)).toNat : Int)) ∧ w = w' := by
  go_enter Tryz.func145, Tryz.ntmps145
  go_wp2
  go_loop [3, 10] (fun t i => ∃ k : Nat, k ≤ rs.length ∧ i = .int .i64 k ∧ t = .int .u32 ((rest ones (((rs.take k).map (·.2)).flatten)).toNat : Int)) (fun _ i => rs.length - (intOf i).toNat)
  case atStart => exact ⟨0, by omega, rfl, rfl⟩
  case round =>
    obtain ⟨k, hk, rfl, rfl⟩ := hrel
    by_cases hlt : k < rs.length
    · obtain ⟨hc, a, cp, hv, ⟨hl1, hl2, _⟩, hz, hwz⟩ := hR k hlt
      have hl : rs[k].2.length ≤ 9223372036854775807 := by omega
      clear hl1 hl2
      generalize hs0 : rest ones (((rs.take k).map (·.2)).flatten) = s0
      have Hs0 := Lib.hid hs0
      clear hs0
      rw [hv] at hc
      have Hv := Lib.hid hv
      clear hv hR
      generalize hzs : rs[k].2 = zs at *
      have Hzs := Lib.hid hzs
      clear hzs
      have hF : rest ones (((rs.take (k + 1)).map (·.2)).flatten) = rest s0 (zs.take zs.length) := by rw [take_rows rs k hlt, Hzs.out, Hs0.out, List.take_length]
      have HF := Lib.hid hF
      clear hF
      go_wp2
      go_loop [3, 16] (fun t i => ∃ j : Nat, j ≤ zs.length ∧ i = .int .i64 j ∧ t = .int .u32 ((rest s0 (zs.take j)).toNat : Int)) (fun _ i => zs.length - (intOf i).toNat)
      case atStart => exact ⟨0, by omega, rfl, rfl⟩
      case round =>
        obtain ⟨j, hj, rfl, rfl⟩ := hrel
        by_cases hlj : j < zs.length
        · obtain ⟨b, off, rfl, hcz⟩ := hz (by intro h; rw [h] at hlj; simp at hlj)
          have hb : 0 ≤ zs[j] ∧ zs[j] < 256 := hwz _ (List.getElem_mem hlj)
          obtain ⟨hb0, hb1⟩ := hb
          have hcj := hcz j hlj
          clear hcz hz hwz
          go_wp2_with (go_at_call 197; refine (next_any _ _ _ hb0 hb1).mono ?_; rintro e w' ⟨rfl, rfl⟩)
          go_round
          case rel => exact ⟨j + 1, by omega, by go_num, u32_congr (rest_take _ _ _ hlj).symm⟩
          case measure => simp [intOf]; omega
        · obtain rfl : j = zs.length := by omega
          go_wp2
          go_round
          case rel => exact ⟨k + 1, by omega, by go_num, u32_congr HF.out.symm⟩
          case measure => simp [intOf]; omega
    · obtain rfl : k = rs.length := by omega
      go_wp2
      go_ret
      exact ⟨congrArg Ending.returned ((congrArg (Value.int .u32) (not32 _)).trans (u32_congr rfl)), rfl⟩
end Go.Proofs.YtkhnkidggcjfeaaGreatDoor
end
section
namespace Go.Proofs.YtkhnkidggcjfeaaGreatDoor
open Go.RowKit
end Go.Proofs.YtkhnkidggcjfeaaGreatDoor
end
section
namespace Go.Proofs.YtkhnkidggcjfeaaGreatDoor
open Go.RowKit
/-! ### A record, and the root, as bytes in sectors -/
def roomM (n : Nat) : Nat := (n + 78) / 63
def crcI (l : List Int) : Int := ((crc l).toNat : Int)
theorem crcI_bounds (l : List Int) : 0 ≤ crcI l ∧ crcI l < 4294967296 := u32_of _
def recB (b : List Int) : List Int := le4 (crcI b) ++ (List.replicate 8 0 ++ sizedL b)
theorem recB_length (b : List Int) : (recB b).length = b.length + 16 := by
  simp [recB, sizedL, le4]
theorem zeros_byts (n : Nat) : Byts (List.replicate n 0) := fun z hz => by rw [(List.mem_replicate.1 hz).2]; decide
theorem recB_byts (b : List Int) (h : Byts b) (hl : b.length ≤ 4096) : Byts (recB b) :=
  (le4_byts _ (crcI_bounds b).1 (crcI_bounds b).2).append ((zeros_byts 8).append (sizedL_byts b h (by omega)))
def padTo (l : List Int) : List Int := l ++ List.replicate (64 - l.length) 0
theorem padTo_length (l : List Int) (h : l.length ≤ 64) : (padTo l).length = 64 := by simp [padTo]; omega
theorem padTo_byts (l : List Int) (h : Byts l) : Byts (padTo l) := h.append (zeros_byts _)
def cutB (R : List Int) (i : Nat) : List Int := padTo ((R.drop (i * 63)).take 63)
theorem cutB_length (R : List Int) (i : Nat) : (cutB R i).length = 64 := padTo_length _ (by rw [List.length_take]; omega)
def layB (b : List Int) : List (List Int) := (List.range (roomM b.length)).map (cutB (recB b))
theorem layB_length (b : List Int) : (layB b).length = roomM b.length := by simp [layB]
def markS : ByteArray := { data := #[102, 97, 114, 114, 105, 101, 114, 32, 108, 111, 103] }
def rootH (side used : Nat) : List Int := sizedL (sb markS) ++ (le4 side ++ (le4 used ++ []))
def rootR (side used : Nat) : List Int := rootH side used ++ (le4 (crcI (rootH side used)) ++ [])
def rootB (side used : Nat) : List Int := padTo (rootR side used)
theorem rootH_length (side used : Nat) : (rootH side used).length = 23 := by simp [rootH, sizedL, le4, sb, markS]
theorem rootR_length (side used : Nat) : (rootR side used).length = 27 := by simp [rootR, rootH_length, le4]
theorem rootB_length (side used : Nat) : (rootB side used).length = 64 := padTo_length _ (by rw [rootR_length]; omega)
theorem rootH_byts (side used : Nat) (h1 : side ≤ 1) (h2 : used ≤ 4096) : Byts (rootH side used) :=
  (sizedL_byts _ (sb_byts _) (by rw [sb_length]; decide)).append ((le4_byts _ (by omega) (by omega)).append ((le4_byts _ (by omega) (by omega)).append Byts.nil))
theorem rootR_byts (side used : Nat) (h1 : side ≤ 1) (h2 : used ≤ 4096) : Byts (rootR side used) :=
  (rootH_byts side used h1 h2).append ((le4_byts _ (crcI_bounds _).1 (crcI_bounds _).2).append Byts.nil)
theorem rootB_byts (side used : Nat) (h1 : side ≤ 1) (h2 : used ≤ 4096) : Byts (rootB side used) := padTo_byts _ (rootR_byts side used h1 h2)
theorem isSec_bs (l : List Int) (h : l.length = 64) : isSec (bs l) := ⟨by rw [bs_length, h], bs_one l⟩
def secsB (recs : List (List Int)) : List (List Int) := recs.flatMap layB
theorem secsB_append (a b : List (List Int)) : secsB (a ++ b) = secsB a ++ secsB b := by simp [secsB]
theorem secsB_one (b : List Int) : secsB [b] = layB b := by simp [secsB]
def Recs (recs : List (List Int)) : Prop := ∀ b ∈ recs, Byts b ∧ b.length ≤ 4096
def secsV (recs : List (List Int)) : List (List Value) := (secsB recs).map bs
theorem secsV_length (recs : List (List Int)) : (secsV recs).length = (secsB recs).length := by simp [secsV]
structure Holds (K : List (List Value)) (h side used : Nat) (recs : List (List Int)) : Prop where
  six : 6 ≤ K.length
  most : K.length ≤ 4096
  half : h = (K.length - 2) / 2
  sides : side ≤ 1
  uses : used = (secsB recs).length
  fit : used ≤ h
  root : K[0]? = some (bs (rootB side used))
  secs : ∀ i : Nat, i < used → K[2 + side * h + i]? = (secsV recs)[i]?
  all : Recs recs
/-! ### Writing several sectors, and a flush -/
def Clean (D : Dk) : Prop := D.since = [] ∧ D.kept = D.last
def writesM : Dk → Nat → List (List Value) → Dk × Int
  | D, _, [] => flushM D
  | D, at_, s :: r => if (writeM D at_ s).2 ≠ 0 then writeM D at_ s else writesM (writeM D at_ s).1 (at_ + 1) r
structure Dirty (D : Dk) (K : List (List Value)) (at_ : Nat) (ws : List (List Value)) : Prop where
  up : D.down = false
  kept : D.kept = K
  fit : at_ + ws.length ≤ K.length
  since : D.since = ws.mapIdx fun i s => (at_ + i, s)
  len : D.last.length = K.length
  last : ∀ j, D.last[j]? = if at_ ≤ j ∧ j < at_ + ws.length then ws[j - at_]? else K[j]?
theorem Clean.dirty {D : Dk} (h : Clean D) (hd : D.down = false) (at_ : Nat) (hf : at_ ≤ D.last.length) : Dirty D D.last at_ [] :=
  ⟨hd, h.2, by simpa using hf, by rw [h.1]; rfl, rfl, fun j => by rw [if_neg (by intro h; simp at h; omega)]⟩
theorem Dirty.get {D : Dk} {K : List (List Value)} {at_ : Nat} {ws : List (List Value)} (h : Dirty D K at_ ws) (i : Nat) (hi : i < ws.length) : D.since[i]? = some (at_ + i, ws[i]) := by
  rw [h.since, List.getElem?_mapIdx, List.getElem?_eq_getElem hi]; rfl
theorem Dirty.slen {D : Dk} {K : List (List Value)} {at_ : Nat} {ws : List (List Value)} (h : Dirty D K at_ ws) : D.since.length = ws.length := by rw [h.since, List.length_mapIdx]
theorem Dirty.keptTo {D : Dk} {K : List (List Value)} {at_ : Nat} {ws : List (List Value)} (h : Dirty D K at_ ws) (keeps : Int) : ∀ (i : Nat), i ≤ ws.length → ∀ j, (keptTo D keeps i)[j]? = if at_ ≤ j ∧ j < at_ + i ∧ bitOf keeps (j - at_) = true then ws[j - at_]? else K[j]?
  | 0, _, j => by
    rw [if_neg (by omega)]
    show D.kept[j]? = _
    rw [h.kept]
  | i + 1, hi, j => by
    have ih := Dirty.keptTo h keeps i (by omega)
    rw [Go.Proofs.YtkhnkidggcjfeaaGreatDoor.keptTo, h.get i (by omega)]
    have hl : (Go.Proofs.YtkhnkidggcjfeaaGreatDoor.keptTo D keeps i).length = K.length := by rw [keptTo_length, h.kept]
    have hf := h.fit
    simp only
    by_cases hb : bitOf keeps i = true
    · rw [if_pos hb, List.getElem?_set]
      by_cases hj : at_ + i = j
      · subst hj
        rw [if_pos rfl, if_pos (by omega), if_pos ⟨by omega, by omega, by rw [Nat.add_sub_cancel_left]; exact hb⟩, Nat.add_sub_cancel_left, List.getElem?_eq_getElem (by omega)]
      · rw [if_neg hj, ih j]
        by_cases hc : at_ ≤ j ∧ j < at_ + i ∧ bitOf keeps (j - at_) = true
        · rw [if_pos hc, if_pos ⟨hc.1, by omega, hc.2.2⟩]
        · rw [if_neg hc, if_neg (fun hc' => hc ⟨hc'.1, by omega, hc'.2.2⟩)]
    · rw [if_neg hb, ih j]
      by_cases hc : at_ ≤ j ∧ j < at_ + i ∧ bitOf keeps (j - at_) = true
      · rw [if_pos hc, if_pos ⟨hc.1, by omega, hc.2.2⟩]
      · rw [if_neg hc, if_neg (fun hc' => hc ⟨hc'.1, by
          rcases Nat.lt_or_ge j (at_ + i) with h1 | h1
          · exact h1
          · exfalso
            have : j - at_ = i := by omega
            rw [this] at hc'
            exact hb hc'.2.2, hc'.2.2⟩)]
theorem Dirty.lastTo {D : Dk} {K : List (List Value)} {at_ : Nat} {ws : List (List Value)} (h : Dirty D K at_ ws) (M : List (List Value)) (hM : M.length = K.length) : ∀ (i : Nat), i ≤ ws.length → ∀ j, (lastTo M D i)[j]? = if at_ ≤ j ∧ j < at_ + i then M[j]? else D.last[j]?
  | 0, _, j => by rw [if_neg (by omega)]; rfl
  | i + 1, hi, j => by
    have ih := Dirty.lastTo h M hM i (by omega)
    rw [Go.Proofs.YtkhnkidggcjfeaaGreatDoor.lastTo, h.get i (by omega)]
    have hl : (Go.Proofs.YtkhnkidggcjfeaaGreatDoor.lastTo M D i).length = K.length := by rw [lastTo_length, h.len]
    have hf := h.fit
    simp only
    rw [List.getElem?_set]
    by_cases hj : at_ + i = j
    · subst hj
      rw [if_pos rfl, if_pos (by omega), if_pos ⟨by omega, by omega⟩, List.getD_eq_getElem?_getD, List.getElem?_eq_getElem (by omega)]
      rfl
    · rw [if_neg hj, ih j]
      by_cases hc : at_ ≤ j ∧ j < at_ + i
      · rw [if_pos hc, if_pos ⟨hc.1, by omega⟩]
      · rw [if_neg hc, if_neg (fun hc' => hc ⟨hc'.1, by omega⟩)]
theorem Dirty.settle {D : Dk} {K : List (List Value)} {at_ : Nat} {ws : List (List Value)} (h : Dirty D K at_ ws) (keeps : Int) :
    Clean (settleM D keeps) ∧ (settleM D keeps).last.length = K.length ∧ ∀ j, (settleM D keeps).last[j]? = if at_ ≤ j ∧ j < at_ + ws.length ∧ bitOf keeps (j - at_) = true then ws[j - at_]? else K[j]? := by
  have hs := h.slen
  have h1 := h.keptTo keeps ws.length (Nat.le_refl _)
  have hl : (Go.Proofs.YtkhnkidggcjfeaaGreatDoor.keptTo D keeps ws.length).length = K.length := by rw [keptTo_length, h.kept]
  have h2 := h.lastTo (Go.Proofs.YtkhnkidggcjfeaaGreatDoor.keptTo D keeps ws.length) hl ws.length (Nat.le_refl _)
  have he : Go.Proofs.YtkhnkidggcjfeaaGreatDoor.lastTo (Go.Proofs.YtkhnkidggcjfeaaGreatDoor.keptTo D keeps ws.length) D ws.length = Go.Proofs.YtkhnkidggcjfeaaGreatDoor.keptTo D keeps ws.length := by
    apply List.ext_getElem?
    intro j
    rw [h2 j]
    by_cases hc : at_ ≤ j ∧ j < at_ + ws.length
    · rw [if_pos hc]
    · rw [if_neg hc, h1 j, if_neg (fun hc' => hc ⟨hc'.1, hc'.2.1⟩), h.last j, if_neg hc]
  unfold settleM
  rw [hs]
  refine ⟨⟨rfl, he.symm⟩, ?_, fun j => ?_⟩
  · show (Go.Proofs.YtkhnkidggcjfeaaGreatDoor.lastTo _ D _).length = _
    rw [lastTo_length, h.len]
  · show (Go.Proofs.YtkhnkidggcjfeaaGreatDoor.lastTo _ D _)[j]? = _
    rw [he, h1 j]
theorem bit_all (i : Nat) : bitOf 18446744073709551615 i = true := by
  unfold bitOf
  have h : (18446744073709551615 : Int).toNat = 2 ^ 64 - 1 := by decide
  rw [h, Nat.testBit_two_pow_sub_one]
  exact decide_eq_true (by omega)
structure Wrote (K : List (List Value)) (at_ : Nat) (ws : List (List Value)) (lf : Int) (D' : Dk) (e : Int) : Prop where
  clean : Clean D'
  len : D'.last.length = K.length
  left : lf = 0 → D'.left = 0 ∧ e = 0
  ends : (e = 0 ∧ D'.down = false ∧ ∀ j, D'.last[j]? = if at_ ≤ j ∧ j < at_ + ws.length then ws[j - at_]? else K[j]?) ∨
    (e = 3 ∧ D'.down = true ∧ D'.left = 0 ∧ ∀ j, D'.last[j]? = K[j]? ∨ at_ ≤ j ∧ j < at_ + ws.length ∧ D'.last[j]? = ws[j - at_]?)
theorem dirty_step {D : Dk} {K : List (List Value)} {at_ : Nat} {ws : List (List Value)} (h : Dirty D K at_ ws) (h0 : 0 ≤ D.left) :
    ((stepM D).2 = 0 ∧ Dirty (stepM D).1 K at_ ws ∧ (D.left = 0 → (stepM D).1.left = 0)) ∨ (D.left ≠ 0 ∧ (stepM D).2 = 3 ∧ Wrote K at_ ws D.left (stepM D).1 3) := by
  unfold stepM
  by_cases c0 : D.left = 0
  · rw [if_pos c0]
    exact .inl ⟨rfl, ⟨h.up, h.kept, h.fit, h.since, h.len, h.last⟩, fun _ => c0⟩
  · rw [if_neg c0]
    simp only
    by_cases c1 : 0 < D.left - 1
    · rw [if_pos c1]
      exact .inl ⟨rfl, ⟨h.up, h.kept, h.fit, h.since, h.len, h.last⟩, fun e => absurd e c0⟩
    · rw [if_neg c1]
      have h' : Dirty { D with steps := D.steps + 1, left := D.left - 1 } K at_ ws := ⟨h.up, h.kept, h.fit, h.since, h.len, h.last⟩
      obtain ⟨s1, s2, s3⟩ := h'.settle D.keeps
      refine .inr ⟨c0, rfl, s1, s2, fun e => absurd e c0, .inr ⟨rfl, rfl, rfl, fun j => ?_⟩⟩
      have := s3 j
      by_cases hc : at_ ≤ j ∧ j < at_ + ws.length ∧ bitOf D.keeps (j - at_) = true
      · rw [if_pos hc] at this
        exact .inr ⟨hc.1, hc.2.1, this⟩
      · rw [if_neg hc] at this
        exact .inl this
theorem dirty_put {D : Dk} {K : List (List Value)} {at_ : Nat} {ws : List (List Value)} (h : Dirty D K at_ ws) (s : List Value) (hf : at_ + ws.length < K.length) : Dirty (putM D (at_ + ws.length) s) K at_ (ws ++ [s]) := by
  refine ⟨h.up, h.kept, by simp; omega, ?_, ?_, fun j => ?_⟩
  · show D.since ++ [(at_ + ws.length, s)] = _
    rw [h.since, List.mapIdx_append]
    simp
  · show (D.last.set _ _).length = _
    rw [List.length_set, h.len]
  · show (D.last.set (at_ + ws.length) s)[j]? = _
    rw [List.getElem?_set, h.len, h.last j]
    by_cases hj : at_ + ws.length = j
    · subst hj
      rw [if_pos rfl, if_pos hf, if_pos (by simp), Nat.add_sub_cancel_left]
      simp
    · rw [if_neg hj]
      by_cases hc : at_ ≤ j ∧ j < at_ + ws.length
      · rw [if_pos hc, if_pos (by simp; omega), List.getElem?_append_left (by omega)]
      · rw [if_neg hc, if_neg (by simp; omega)]
theorem dirty_write {D : Dk} {K : List (List Value)} {at_ : Nat} {ws : List (List Value)} (h : Dirty D K at_ ws) (s : List Value) (hf : at_ + ws.length < K.length) : writeM D (at_ + ws.length : Nat) s = stepM (putM D (at_ + ws.length) s) := by
  have hr : refusedM D (at_ + ws.length : Nat) = 0 := by
    unfold refusedM
    rw [h.up, h.len, if_neg (by decide), if_neg (by omega)]
  unfold writeM
  rw [if_neg (by rw [hr]; decide), Int.toNat_natCast]
theorem stepM_bounds (D : Dk) : (stepM D).1.steps = D.steps + 1 ∧ (stepM D).1.since.length ≤ D.since.length ∧ ((stepM D).2 = 0 ∨ (stepM D).2 = 3) ∧ (0 ≤ D.left → 0 ≤ (stepM D).1.left) := by
  unfold stepM
  by_cases c0 : D.left = 0
  · rw [if_pos c0]; exact ⟨rfl, Nat.le_refl _, .inl rfl, fun h => h⟩
  · rw [if_neg c0]
    simp only
    by_cases c1 : 0 < D.left - 1
    · rw [if_pos c1]; exact ⟨rfl, Nat.le_refl _, .inl rfl, fun h => by show 0 ≤ D.left - 1; omega⟩
    · rw [if_neg c1]; exact ⟨rfl, Nat.zero_le _, .inr rfl, fun _ => Int.le_refl _⟩
theorem writes_dirty (r : List (List Value)) : ∀ {D : Dk} {K : List (List Value)} {at_ : Nat} {ws : List (List Value)} (lf : Int), Dirty D K at_ ws → 0 ≤ D.left → (lf = 0 → D.left = 0) → at_ + ws.length + r.length ≤ K.length →
    Wrote K at_ (ws ++ r) lf (writesM D (at_ + ws.length) r).1 (writesM D (at_ + ws.length) r).2 ∧ (writesM D (at_ + ws.length) r).1.steps ≤ D.steps + r.length + 1 ∧ D.steps ≤ (writesM D (at_ + ws.length) r).1.steps ∧ 0 ≤ (writesM D (at_ + ws.length) r).1.left := by
  induction r with
  | nil =>
    intro D K at_ ws lf h h0 hl hf
    have hb := stepM_bounds D
    rw [List.append_nil]
    unfold writesM flushM
    rw [if_neg (by rw [h.up]; decide)]
    simp only
    rcases dirty_step h h0 with ⟨e1, h2, h3⟩ | ⟨e0, e1, h2⟩
    · rw [e1, if_neg (by decide)]
      obtain ⟨s1, s2, s3⟩ := h2.settle 18446744073709551615
      refine ⟨⟨s1, s2, fun e => ⟨h3 (hl e), rfl⟩, .inl ⟨rfl, h2.up, fun j => ?_⟩⟩, ?_, ?_, ?_⟩
      · rw [s3 j]
        by_cases hc : at_ ≤ j ∧ j < at_ + ws.length
        · rw [if_pos hc, if_pos ⟨hc.1, hc.2, bit_all _⟩]
        · rw [if_neg hc, if_neg (fun hc' => hc ⟨hc'.1, hc'.2.1⟩)]
      · show (stepM D).1.steps ≤ _; simp; omega
      · show _ ≤ (stepM D).1.steps; omega
      · show 0 ≤ (stepM D).1.left; exact hb.2.2.2 h0
    · rw [e1, if_pos (by decide), e1]
      refine ⟨⟨h2.clean, h2.len, fun e => absurd (hl e) e0, h2.ends⟩, by simp; omega, by omega, hb.2.2.2 h0⟩
  | cons s r ih =>
    intro D K at_ ws lf h h0 hl hf
    simp only [List.length_cons] at hf ⊢
    have hp := dirty_put h s (by omega)
    have hw := dirty_write h s (by omega)
    have hb := stepM_bounds (putM D (at_ + ws.length) s)
    have hps : (putM D (at_ + ws.length) s).steps = D.steps := rfl
    have hpl : (putM D (at_ + ws.length) s).left = D.left := rfl
    unfold writesM
    rw [hw]
    rcases dirty_step hp h0 with ⟨e1, h2, h3⟩ | ⟨e0, e1, h2⟩
    · rw [e1, if_neg (by decide)]
      have := ih lf h2 (hb.2.2.2 h0) (fun e => h3 (hl e)) (by simp; omega)
      rw [List.append_assoc, List.singleton_append, List.length_append, List.length_singleton, ← Nat.add_assoc] at this
      exact ⟨this.1, by have := this.2.1; omega, by have := this.2.2.1; omega, this.2.2.2⟩
    · rw [e1, if_pos (by decide), e1]
      refine ⟨⟨h2.clean, h2.len, fun e => absurd (hl e) e0, .inr ?_⟩, by omega, by omega, hb.2.2.2 h0⟩
      rcases h2.ends with ⟨h4, _⟩ | ⟨_, h5, h6, h7⟩
      · cases h4
      · refine ⟨rfl, h5, h6, fun j => ?_⟩
        rcases h7 j with h8 | ⟨h8, h9, h10⟩
        · exact .inl h8
        · refine .inr ⟨h8, by simp only [List.length_append, List.length_cons, List.length_nil] at h9 ⊢; omega, ?_⟩
          rw [h10]
          have e : ws ++ s :: r = (ws ++ [s]) ++ r := by simp
          rw [e]
          exact (List.getElem?_append_left (by simp at h9 ⊢; omega)).symm
theorem writes_clean (D : Dk) (hc : Clean D) (hu : D.down = false) (h0 : 0 ≤ D.left) (at_ : Nat) (ws : List (List Value)) (hf : at_ + ws.length ≤ D.last.length) :
    Wrote D.last at_ ws D.left (writesM D at_ ws).1 (writesM D at_ ws).2 ∧ (writesM D at_ ws).1.steps ≤ D.steps + ws.length + 1 ∧ D.steps ≤ (writesM D at_ ws).1.steps ∧ 0 ≤ (writesM D at_ ws).1.left := by
  have := writes_dirty ws (ws := []) (at_ := at_) D.left (hc.dirty hu at_ (by omega)) h0 (fun e => e) (by simpa using hf)
  simpa using this
end Go.Proofs.YtkhnkidggcjfeaaGreatDoor
end
