/- Package rec: what makes parts. -/
import Derived.Test.YtjhaihckbmkiaaaDoorProg
import Derived.Test.YtjhaihckbmkiaaaDoorKRec0
import Derived.WalkLawsBesides
import Derived.Outline
import Derived.Lib.Hide
import Derived.Lib.AppendZerosOnto
import Derived.Lib.SliceRun
namespace Go.Proofs.YtjhaihckbmkiaaaDoor
open Go.RowKit
set_option linter.unusedVariables false
set_option maxRecDepth 100000
set_option linter.unusedSimpArgs false

theorem info_u : (Tryd.prog.info? 5).map (fun i => (i.zero, i.size, i.bytes)) = some (some (.int .u8 0), 1, 1) := by kernel_rfl

theorem num_any (n : Int) (w : World) (h0 : 0 ≤ n) (h1 : n < 4294967296) :
    Calls Tryd.prog 20 #[.int .i64 n] w fun e w' => ∃ v, e = .returned v ∧ Own w w' [rowU v (le4 n)] := by
  go_enter Tryd.func20, Tryd.ntmps20
  go_wp2_with fail
  go_ret
  exact ⟨_, rfl, (Own.start w).made 5 1 #[.int .u8 (n % 256), .int .u8 (n / 256 % 256), .int .u8 (n / 65536 % 256), .int .u8 (n / 16777216)] 4 rfl (by unfold maxLen; decide)⟩

/-- slices.Grow of nil. -/
theorem grow_zero (w : World) : Calls Tryd.prog 42 #[.slice none 0 0, .int .i64 0] w fun e w' => e = .returned (.slice none 0 0) ∧ w = w' := by
  go_enter Tryd.func42, Tryd.ntmps42
  go_wp2_with fail
  go_ret
  exact ⟨rfl, rfl⟩
theorem grow_pos (n : Nat) (w : World) (h0 : 0 < n) (h1 : n ≤ 140737488355328) : Calls Tryd.prog 42 #[.slice none 0 0, .int .i64 (n : Int)] w fun e w' => ∃ v, e = .returned v ∧ Own w w' [rowU v []] := by
  obtain ⟨i0, hi, hz0, hz1, hz2⟩ := info_parts info_u
  have hrz : ∀ ty, (Builtin.append_ #[49, 3] ty #[.slice none 0 0, .int .i64 (n : Int)]).run Tryd.prog w =
      .ok (.slice (some ⟨w.heap.size, 0, none⟩) n (grownCap w n 0 5)) (w.drew.alloc (.cells (#[] ++ Builtin.zeroCells (Value.int .u8 0).cells n ++ Builtin.zeroCells (Value.int .u8 0).cells (grownCap w n 0 5 - n)) 5)) := fun ty => by
    have h := Lib.run_append_grow_zeros w 49 3 ty 5 i0 (.int .u8 0) .i64 .i64 Tryd.underlying49 Tryd.underlying3 hi hz0 none 0 0 [] (run_firstCells_none w.drew i0.size 0 0 0) n h0 (by omega) (by omega) (by omega) (by rw [hz2]; omega) (growslice_fits (by omega) (by rw [hz2]; omega))
    simpa using h
  have hge : n ≤ grownCap w n 0 5 := grownCap_ge w _ _ _
  have hle : grownCap w n 0 5 ≤ maxLen := grownCap_le_maxLen w n 0 _ (by unfold maxLen; omega)
  obtain ⟨G, hG⟩ : ∃ G, G = grownCap w n 0 5 := ⟨_, rfl⟩
  rw [← hG] at hrz hge hle
  have hO := World.ownsRow_made (base := w.heap.size) (e := 5) (size := 1) w.drew (#[] ++ Builtin.zeroCells (Value.int .u8 0).cells n ++ Builtin.zeroCells (Value.int .u8 0).cells (G - n)) G (Nat.le_refl _) hle (by simp [Builtin.zeroCells, Value.cells]; omega)
  generalize (#[] ++ Builtin.zeroCells (Value.int .u8 0).cells n ++ Builtin.zeroCells (Value.int .u8 0).cells (G - n)) = C at *
  have hO2 : Own w (w.drew.alloc (.cells C 5)) [rowU (.slice (some ⟨w.heap.size, 0, none⟩) 0 G) []] := ⟨(Own.start w).drew.alloc (.cells C 5) |>.below, fun p hp => by rw [List.mem_singleton.1 hp]; exact hO, List.pairwise_singleton _ _, (fun m hm => by cases hm), (fun m hm => by cases hm)⟩
  have HO := Lib.hid hO2
  have hG63 : G ≤ 9223372036854775807 := by unfold maxLen at hle; omega
  clear hG hO hO2 hle
  go_enter Tryd.func42, Tryd.ntmps42
  go_wp2_with (at_builtin; refine Lib.wpList_append_run _ rfl _ _ _ _ rfl _ _ rfl rfl _ _ (hrz _) ?_)
  go_ret
  exact ⟨_, rfl, HO.out⟩

/-- Parts: slice values that read as bytes. -/
def Parts (w : World) (a : Option Addr) (PS : List (Value × List Int)) : Prop :=
  ∀ i (h : i < PS.length), ∃ g o, a = some ⟨g, o, none⟩ ∧ w.cell? ⟨g, o + i, none⟩ = some PS[i].1 ∧ By w PS[i].1 PS[i].2
def allOf (PS : List (Value × List Int)) : List Int := (PS.map (·.2)).flatten
theorem allOf_take_succ (PS : List (Value × List Int)) (i : Nat) (h : i < PS.length) : allOf (PS.take (i + 1)) = allOf (PS.take i) ++ PS[i].2 := by
  unfold allOf
  rw [List.take_succ_eq_append_getElem h]
  simp only [List.map_append, List.map_cons, List.map_nil, List.flatten_append, List.flatten_cons, List.flatten_nil, List.append_nil]
theorem allOf_take_le (PS : List (Value × List Int)) (i : Nat) : (allOf (PS.take i)).length ≤ (allOf PS).length := by
  have h : allOf PS = allOf (PS.take i) ++ allOf (PS.drop i) := by
    unfold allOf
    rw [← List.flatten_append, ← List.map_append, List.take_append_drop]
  rw [h, List.length_append]; omega
theorem Parts.later {w w' : World} {a : Option Addr} {PS : List (Value × List Int)} (h : Parts w a PS) (hb : Below w.heap.size w w') : Parts w' a PS := by
  intro i hi
  obtain ⟨g, o, ha, hc, hy⟩ := h i hi
  exact ⟨g, o, ha, (hb.cell (p := ⟨g, o + i, none⟩) (World.block_lt_of_cell? w _ hc)).trans hc, hy.later hb⟩
theorem Parts.byts {w : World} {a : Option Addr} {PS : List (Value × List Int)} (h : Parts w a PS) : Byts (allOf PS) := by
  intro z hz
  obtain ⟨l, hl, hz⟩ := List.mem_flatten.1 hz
  obtain ⟨p, hp, rfl⟩ := List.mem_map.1 hl
  obtain ⟨i, hi, rfl⟩ := List.getElem_of_mem hp
  obtain ⟨g, o, _, _, hy⟩ := h i hi
  exact hy.2.1 z hz

set_option maxHeartbeats 1600000 in
theorem concat_any (a : Option Addr) (c : Nat) (PS : List (Value × List Int)) (w : World) (hP : Parts w a PS) (hn : PS.length ≤ maxLen) (hl : (allOf PS).length ≤ 140737488355328) :
    Calls Tryd.prog 34 #[.slice a PS.length c] w fun e w' => ∃ v, e = .returned v ∧ Own w w' [rowU v (allOf PS)] := by
  unfold maxLen at hn
  have HP := Lib.hid hP
  have Hl := Lib.hid hl
  clear hP hl
  go_enter Tryd.func34, Tryd.ntmps34
  go_wp2_with fail
  go_loop [3, 11] (fun t i => ∃ k : Nat, k ≤ PS.length ∧ i = .int .i64 k ∧ t = .int .i64 ((allOf (PS.take k)).length : Int)) (fun _ i => PS.length - (intOf i).toNat)
  case atStart => exact ⟨0, Nat.zero_le _, rfl, rfl⟩
  case round =>
    obtain ⟨k, hk, rfl, rfl⟩ := hrel
    by_cases hlt : k < PS.length
    · obtain ⟨g, o, rfl, hc, _, _, ga, gc, hv, hv1, hv2⟩ := HP.out k hlt
      have HS := Lib.hid (congrArg List.length (allOf_take_succ PS k hlt))
      have hs1 := allOf_take_le PS k
      have hs2 := allOf_take_le PS (k + 1)
      have hs3 : (allOf (PS.take (k + 1))).length = (allOf (PS.take k)).length + (PS[k].2).length := by rw [HS.out, List.length_append]
      have hs4 : (((allOf (PS.take k)).length : Nat) : Int) + (((PS[k].2).length : Nat) : Int) ≤ 140737488355328 := by have := Hl.out; omega
      have HS3 := Lib.hid hs3
      rw [hv] at hc
      clear hs3 hv
      generalize (allOf (PS.take k)).length = m at *
      generalize (PS[k].2).length = m2 at *
      go_wp2_with fail
      exact ⟨⟨k + 1, by omega, by go_num, by rw [HS3.out]; go_num⟩, by simp [intOf]; omega⟩
    · obtain rfl : k = PS.length := by omega
      have hl := Hl.out
      have HT := Lib.hid (show allOf (PS.take PS.length) = allOf PS by rw [List.take_length])
      rw [HT.out]
      obtain ⟨i0, hi, hz0, hz1, hz2⟩ := info_parts info_u
      have hm0 : (0 : Int) ≤ ((allOf PS).length : Int) := by omega
      clear HT
      obtain ⟨n, hn2⟩ : ∃ n, (allOf PS).length = n := ⟨_, rfl⟩
      rw [hn2] at hm0 hl ⊢
      have Hn2 := Lib.hid hn2
      clear hn2
      go_wp2_with fail
      refine (show Calls Tryd.prog 42 #[.slice none 0 0, .int .i64 (n : Int)] w fun e w' => ∃ v, e = .returned v ∧ Own w w' [rowU v []] from ?_).mono ?_
      · rcases Nat.eq_zero_or_pos n with h0 | h0
        · rw [h0]; exact (grow_zero w).mono fun e w' ⟨h1, h2⟩ => ⟨_, h1, h2 ▸ (Own.start w).nil _ _⟩
        · exact grow_pos n w h0 hl
      rintro e w1 ⟨v, rfl, hO1⟩
      have HO1 := Lib.hid hO1
      obtain ⟨va, vc, rfl, _, _⟩ := Own.sized (h := hO1)
      clear hO1
      go_wp2_with fail
      go_loopw [6, 27] (fun t i wr => ∃ k : Nat, k ≤ PS.length ∧ i = .int .i64 k ∧ Own w wr [rowU t (allOf (PS.take k))]) (fun _ i _ => PS.length - (intOf i).toNat)
      case atStart => exact ⟨0, Nat.zero_le _, rfl, HO1.out⟩
      case round =>
        obtain ⟨k, hk, rfl, hO⟩ := hrel
        by_cases hlt : k < PS.length
        · obtain ⟨g, o, rfl, hc, hy⟩ := (HP.out.later hO.below) k hlt
          have hys := hy.1
          have HS := Lib.hid (allOf_take_succ PS k hlt)
          have hs2 := allOf_take_le PS (k + 1)
          have hs3 : (allOf (PS.take (k + 1))).length = (allOf (PS.take k)).length + (PS[k].2).length := by rw [HS.out, List.length_append]
          have hsum : (allOf (PS.take k)).length + (PS[k].2).length ≤ 140737488355328 := by have := Hl.out; omega
          have Hsum := Lib.hid hsum
          have HO := Lib.hid hO
          have Hys := Lib.hid hys
          clear hs2 hs3 hO hy hys hsum
          generalize PS[k].2 = zk at *
          generalize PS[k].1 = vk at *
          go_wp2_with (at_builtin; refine wpList_append_src rfl (.tmp 31) (.tmp 32) 49 rfl _ (allOf (PS.take k)).length (bs (allOf (PS.take k))) vk zk.length (bs zk) rfl rfl HO.out i0 (.int .u8 0) 1 Tryd.underlying49 hi hz0 hz1 hz2 rfl (by decide) Hys.out (by rw [bs_length, Nat.mul_one]) (by have := Hsum.out; unfold maxLen; omega) (by have := Hsum.out; omega) ?_)
          intro v' w' hO'
          rw [← bs_append, ← HS.out] at hO'
          have HO' := Lib.hid (show Own w w' [rowU v' (allOf (PS.take (k + 1)))] by unfold rowU; rw [HS.out, List.length_append, ← HS.out]; exact hO')
          clear hO' Hsum
          go_wp2_with fail
          exact ⟨⟨k + 1, by omega, by go_num, HO'.out⟩, by simp [intOf]; omega⟩
        · obtain rfl : k = PS.length := by omega
          rw [List.take_length] at hO
          have HO := Lib.hid hO
          clear hO
          go_wp2_with fail
          go_ret
          exact ⟨_, rfl, HO.out⟩

theorem cell_of_block {w : World} {g : Nat} {C : Array Value} {e : TypeId} {mk : Nat × Nat} (h : w.heap[g]? = some (.cells C e mk)) (j : Nat) : w.cell? ⟨g, j, none⟩ = C[j]? := by
  unfold World.cell?
  rw [h]
  rfl
theorem parts_list (w : World) (T : TypeId) (PS : List (Value × List Int)) (h : ∀ p ∈ PS, By w p.1 p.2) (H : Nat) (hH : H = w.heap.size) : Parts (w.alloc (.cells (PS.map (·.1)).toArray T)) (some ⟨H, 0, none⟩) PS := by
  subst hH
  intro i hi
  refine ⟨w.heap.size, 0, rfl, ?_, (h _ (List.getElem_mem hi)).later (Below.alloc (Below.refl _ _) (Nat.le_refl _) _)⟩
  rw [Nat.zero_add]
  have h1 : (w.alloc (.cells (PS.map (·.1)).toArray T)).heap[w.heap.size]? = some (.cells (PS.map (·.1)).toArray T) := heap_alloc_new w _
  rw [cell_of_block h1]
  simp [hi]
theorem allOf_two (u v : Value) (a b : List Int) : allOf [(u, a), (v, b)] = a ++ b := by simp [allOf]
theorem allOf_one (u : Value) (a : List Int) : allOf [(u, a)] = a := by simp [allOf]

theorem pack_any (a : Option Addr) (c : Nat) (PS : List (Value × List Int)) (w : World) (hP : Parts w a PS) (hn : PS.length ≤ maxLen) (hl : (allOf PS).length ≤ 140737488355328) :
    Calls Tryd.prog 22 #[.slice a PS.length c] w fun e w' => ∃ v, e = .returned v ∧ Own w w' [rowU v (allOf PS)] := by
  have HP := Lib.hid hP
  have Hl := Lib.hid hl
  clear hP hl
  go_enter Tryd.func22, Tryd.ntmps22
  go_wp2_with fail
  refine (concat_any a c PS _ HP.out hn Hl.out).mono ?_
  rintro e w1 ⟨v, rfl, hO⟩
  have HO := Lib.hid hO
  clear hO
  go_wp2_with fail
  go_ret
  exact ⟨_, rfl, HO.out⟩

def sizedL (zs : List Int) : List Int := le4 zs.length ++ zs
theorem sizedL_length (zs : List Int) : (sizedL zs).length = zs.length + 4 := by simp [sizedL, le4]
theorem sizedL_byts (zs : List Int) (h : Byts zs) (hl : zs.length < 4294967296) : Byts (sizedL zs) := (le4_byts _ (by omega) (by omega)).append h

set_option maxHeartbeats 800000 in
theorem raw_any (v : Value) (zs : List Int) (w : World) (h : By w v zs) (hl : zs.length < 4294967296) :
    Calls Tryd.prog 35 #[v] w fun e w' => ∃ v', e = .returned v' ∧ Own w w' [rowU v' (sizedL zs)] := by
  have Hy := Lib.hid h
  obtain ⟨_, _, a, c, rfl, _, _⟩ := h
  go_enter Tryd.func35, Tryd.ntmps35
  go_wp2_with fail
  refine (num_any (zs.length : Int) w (by omega) (by omega)).mono ?_
  rintro e w1 ⟨vn, rfl, hO1⟩
  have HO1 := Lib.hid hO1
  obtain ⟨na, nc, rfl, _, _⟩ := Own.sized (h := hO1)
  clear hO1
  go_wp2_with fail
  refine (pack_any (some ⟨w1.heap.size, 0, none⟩) 2 [(.slice na (le4 zs.length).length nc, le4 zs.length), (.slice a zs.length c, zs)] _ (parts_list w1 49 _ ?_ _ rfl) (by simp [maxLen]) (by rw [allOf_two]; simp [le4]; omega)).mono ?_
  · intro p hp
    rcases List.mem_cons.1 hp with rfl | hp
    · exact HO1.out.by (le4_byts _ (by omega) (by omega))
    · obtain rfl := List.mem_singleton.1 hp
      exact Hy.out.later HO1.out.below
  rintro e w2 ⟨v2, rfl, hO2⟩
  rw [allOf_two] at hO2
  have HO := Lib.hid (((HO1.out.alloc _).join hO2).only (List.mem_append_left _ (List.mem_cons_self ..)))
  clear hO2
  go_wp2_with fail
  go_ret
  exact ⟨_, rfl, HO.out⟩

set_option maxHeartbeats 800000 in
theorem list_any (a : Option Addr) (c : Nat) (PS : List (Value × List Int)) (w : World) (hP : Parts w a PS) (hn : PS.length ≤ maxLen) (hl : (allOf PS).length < 4294967296) :
    Calls Tryd.prog 23 #[.slice a PS.length c] w fun e w' => ∃ v', e = .returned v' ∧ Own w w' [rowU v' (sizedL (allOf PS))] := by
  have HP := Lib.hid hP
  have Hl := Lib.hid hl
  clear hP hl
  go_enter Tryd.func23, Tryd.ntmps23
  go_wp2_with fail
  refine (pack_any a c PS _ HP.out hn (by have := Hl.out; omega)).mono ?_
  rintro e w1 ⟨v, rfl, hO⟩
  have HO := Lib.hid hO
  clear hO
  go_wp2_with fail
  refine (raw_any v (allOf PS) w1 (HO.out.by HP.out.byts) Hl.out).mono ?_
  rintro e w2 ⟨v2, rfl, hO2⟩
  have HO2 := Lib.hid ((HO.out.join hO2).only (List.mem_append_left _ (List.mem_cons_self ..)))
  clear hO2
  go_wp2_with fail
  go_ret
  exact ⟨_, rfl, HO2.out⟩

theorem by_of_string (w : World) (s : ByteArray) (G : Nat) (hs : s.size ≤ G) (hG : G ≤ maxLen) (mk : Nat × Nat) :
    By (w.drew.alloc (.cells (bytesRow s G) 5 mk)) (.slice (some ⟨w.heap.size, 0, none⟩) s.size G) (sb s) := by
  have hl := sb_length s
  refine ⟨?_, sb_byts s, some ⟨w.heap.size, 0, none⟩, G, by rw [hl], by rw [hl]; exact hs, hG⟩
  rw [hl]
  refine .inr ⟨_, G, rfl, fun j u hj => ?_, bs_one _⟩
  rw [Addr.add_mid, Nat.zero_add]
  have h1 : (w.drew.alloc (.cells (bytesRow s G) 5 mk)).heap[w.heap.size]? = some (.cells (bytesRow s G) 5 mk) := heap_alloc_new w.drew _
  have hlt : j < s.size := by
    rcases Nat.lt_or_ge j s.size with h2 | h2
    · exact h2
    · rw [List.getElem?_eq_none (by rw [bs_length, hl]; exact h2)] at hj; cases hj
  have hlt' : j < s.data.size := hlt
  rw [cell_of_block h1]
  simp [bs, sb, hlt'] at hj
  obtain ⟨x, hx, rfl⟩ := hj
  obtain ⟨_, rfl⟩ := Array.getElem?_eq_some_iff.1 hx
  simp [bytesRow, Array.getElem?_append, hlt]

set_option maxHeartbeats 800000 in
theorem text_any (s : ByteArray) (w : World) (hl : s.size < 4294967296) :
    Calls Tryd.prog 21 #[.string s] w fun e w' => ∃ v', e = .returned v' ∧ Own w w' [rowU v' (sizedL (sb s))] := by
  go_enter Tryd.func21, Tryd.ntmps21
  go_wp2_with fail
  refine (num_any (s.size : Int) w (by omega) (by omega)).mono ?_
  rintro e w1 ⟨vn, rfl, hO1⟩
  have HO1 := Lib.hid hO1
  obtain ⟨na, nc, rfl, _, _⟩ := Own.sized (h := hO1)
  have hconv := run_bytes_of_string (P := Tryd.prog) w1 9 49 5 s Tryd.underlying9 Tryd.underlying49 Tryd.underlying5
  have hge : s.size ≤ grownCap w1 s.size 0 5 := grownCap_ge w1 _ _ _
  have hle : grownCap w1 s.size 0 5 ≤ maxLen := grownCap_le_maxLen w1 s.size 0 _ (by unfold maxLen; omega)
  generalize grownCap w1 s.size 0 5 = G at *
  have HB := Lib.hid (show By (w1.alloc (.cells (bytesRow s G) 5 ((bytesRow s G).size, (bytesRow s G).size + 1))) _ _ from by_of_string w1 s G hge hle ((bytesRow s G).size, (bytesRow s G).size + 1))
  have HO2 := Lib.hid (HO1.out.alloc (.cells (bytesRow s G) 5 ((bytesRow s G).size, (bytesRow s G).size + 1)))
  generalize (bytesRow s G).size = q at *
  generalize bytesRow s G = C at *
  have hP : Parts ((w1.alloc (.cells C 5 (q, q + 1))).alloc (.cells #[.slice na (le4 s.size).length nc, .slice (some ⟨w1.heap.size, 0, none⟩) s.size G] 49)).drew (some ⟨w1.heap.size + 1, 0, none⟩) [(.slice na (le4 s.size).length nc, le4 s.size), (.slice (some ⟨w1.heap.size, 0, none⟩) s.size G, sb s)] := by
    refine parts_list (w1.alloc (.cells C 5 (q, q + 1))) 49 [(.slice na (le4 s.size).length nc, le4 s.size), (.slice (some ⟨w1.heap.size, 0, none⟩) s.size G, sb s)] ?_ _ (by simp)
    intro p hp
    rcases List.mem_cons.1 hp with rfl | hp
    · exact Own.by HO2.out (le4_byts _ (by omega) (by omega))
    · obtain rfl := List.mem_singleton.1 hp
      exact HB.out
  have HP := Lib.hid hP
  clear hP
  clear hO1 hge hle HO1
  go_wp2_with fail
  refine (pack_any (some ⟨w1.heap.size + 1, 0, none⟩) 2 [(.slice na (le4 s.size).length nc, le4 s.size), (.slice (some ⟨w1.heap.size, 0, none⟩) s.size G, sb s)] _ HP.out (by simp [maxLen]) (by rw [allOf_two]; simp [le4, sb_length]; omega)).mono ?_
  rintro e w2 ⟨v2, rfl, hO3⟩
  rw [allOf_two] at hO3
  have HO := Lib.hid (((HO2.out.alloc _).drew.join hO3).only (List.mem_append_left _ (List.mem_cons_self ..)))
  clear hO3
  go_wp2_with fail
  go_ret
  exact ⟨_, rfl, by unfold sizedL; rw [sb_length]; exact HO.out⟩
end Go.Proofs.YtjhaihckbmkiaaaDoor
