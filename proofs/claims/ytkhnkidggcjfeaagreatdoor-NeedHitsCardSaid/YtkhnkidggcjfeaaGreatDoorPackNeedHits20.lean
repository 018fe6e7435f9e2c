/- Texts one behind the other, each in a section of its own: what calls make of memory, step by step. -/
import Derived.Test.YtkhnkidggcjfeaaGreatDoorPackNeedHits19
import Derived.Deep.DeepCutAuto
import Derived.Deep.RegionWith
import Derived.Deep.CutBlock
import Derived.Shelf.Vars
set_option linter.unusedVariables false
set_option linter.unusedSimpArgs false
set_option maxRecDepth 100000
section
namespace Go.Proofs.YtkhnkidggcjfeaaGreatDoor
open Go.RowKit
open Go.ChangeMaps (setBlock)
theorem mem_start (w : World) : ∃ S, Own ⟨w, S⟩ ((w.alloc (.map #[] 0)).alloc (.map #[] 0)) [] ∧ Mem S w.heap.size (w.heap.size + 1) [] (fun _ => []) [] := by
  have h1 := ((Own.start w).newB (.map #[] 0)).newB (.map #[] 0)
  have e : (w.alloc (.map #[] 0)).heap.size = w.heap.size + 1 := by simp
  rw [e] at h1
  exact ⟨_, h1, ⟨.map #[] 0, List.mem_cons_of_mem _ (List.mem_cons_self ..), MapO.empty _⟩, ⟨.map #[] 0, List.mem_cons_self .., MapO.empty _⟩, (fun p hp => nomatch hp), by omega, List.nodup_nil, (fun p hp => nomatch hp)⟩
theorem files17_any (u : Nm) (hu : u ∈ all4) (w : World) : Calls Tryz.prog 9 #[.string (toB u)] w fun e w' => ∃ b c, e = .returned (.slice (some ⟨b, 0, none⟩) (filesN u).length c) ∧ Own w w' [rowSs (.slice (some ⟨b, 0, none⟩) (filesN u).length c) (filesN u)] := by
  simp only [all4, List.mem_cons, List.not_mem_nil, or_false] at hu
  rcases hu with rfl | rfl | rfl | rfl
  · have hO := (Own.start w).made 9 1 #[.string ⟨#[47, 97]⟩] 1 rfl (by unfold maxLen; decide)
    have hx : toB [117] = ⟨#[117]⟩ := rfl
    rw [hx]
    go_enter Tryz.func9, Tryz.ntmps9
    go_wp2_with fail
    go_ret
    exact ⟨_, _, rfl, hO⟩
  · have hO := (Own.start w).made 9 1 #[.string ⟨#[47, 98]⟩, .string ⟨#[47, 99]⟩] 2 rfl (by unfold maxLen; decide)
    have hx : toB [118] = ⟨#[118]⟩ := rfl
    rw [hx]
    go_enter Tryz.func9, Tryz.ntmps9
    go_wp2_with fail
    go_ret
    exact ⟨_, _, rfl, hO⟩
  · have hO := (Own.start w).made 9 1 #[.string ⟨#[47, 97]⟩, .string ⟨#[47, 99]⟩, .string ⟨#[47, 100]⟩] 3 rfl (by unfold maxLen; decide)
    have hx : toB [119] = ⟨#[119]⟩ := rfl
    rw [hx]
    go_enter Tryz.func9, Tryz.ntmps9
    go_wp2_with fail
    go_ret
    exact ⟨_, _, rfl, hO⟩
  · have hO := (Own.start w).made 9 1 #[.string ⟨#[47, 100]⟩] 1 rfl (by unfold maxLen; decide)
    have hx : toB [120] = ⟨#[120]⟩ := rfl
    rw [hx]
    go_enter Tryz.func9, Tryz.ntmps9
    go_wp2_with fail
    go_ret
    exact ⟨_, _, rfl, hO⟩
theorem sts_cell {w : World} {g n c : Nat} {l : List Nm} (h : Sts w (.slice (some ⟨g, 0, none⟩) n c) l) (k : Nat) (hk : k < l.length) : w.cell? ⟨g, k, none⟩ = some (.string (toB l[k])) := by
  obtain ⟨a', c', e, _, _, g1⟩ := h
  obtain ⟨b, o, h1, _, g3⟩ := g1 (by omega)
  injection e with e1 e2 e3
  rw [h1] at e1
  injection e1 with e1
  injection e1 with e4 e5
  have := g3 k hk
  rw [← e4, ← e5, Nat.zero_add] at this
  exact this
theorem nms5_len (m : Nat) (hm : m < nms5.length) : (toB nms5[m]).size ≤ 100 := by
  rw [toB_size]
  have : m < 5 := hm
  rcases (show m = 0 ∨ m = 1 ∨ m = 2 ∨ m = 3 ∨ m = 4 by omega) with rfl | rfl | rfl | rfl | rfl <;> exact (by decide : 1 ≤ 100)
theorem pth_name (m : Nat) (hm : m < 5) : ∃ (h : m < nms5.length) (h2 : m < pths.length), (⟨#[47]⟩ ++ toB (nms5[m]'h) : ByteArray) = toB (pths[m]'h2) := by
  rcases (show m = 0 ∨ m = 1 ∨ m = 2 ∨ m = 3 ∨ m = 4 by omega) with rfl | rfl | rfl | rfl | rfl <;> exact ⟨by decide, by decide, rfl⟩
def NhR2 (w0 : World) (v mb tb g sb nb k : Nat) (s i : Value) (wr : World) : Prop := s = .bool false ∧ i = .int .i64 (k : Int) ∧ NhS w0 v mb tb g sb nb (k + 1) wr
theorem NhS.skip {w0 w : World} {v mb tb g sb nb k : Nat} (h : NhS w0 v mb tb g sb nb k w) : NhS w0 v mb tb g sb nb (k + 1) w := by
  obtain ⟨V, es, inn, ns, bl, N, h1, h2, h3, h4, h5⟩ := h
  exact ⟨V, es, inn, ns, bl, N, by omega, h2, h3, h4.later (Nat.le_succ k), h5.later (Nat.le_succ k)⟩
theorem opsR17 (w : World) (p : Nm) : Own w (w.alloc (.cells #[.int .i64 2, .string ⟨#[47, 110, 101, 119]⟩, .string ⟨#[]⟩, .slice none 0 0, .int .i64 5, .string ⟨#[47, 110, 101, 119]⟩, .string (toB p), .slice none 0 0] 40)) [rowO (.slice (some ⟨w.heap.size, 0, none⟩) 2 2) (opsT (tsR p))] :=
  (Own.start w).made 40 4 #[.int .i64 2, .string ⟨#[47, 110, 101, 119]⟩, .string ⟨#[]⟩, .slice none 0 0, .int .i64 5, .string ⟨#[47, 110, 101, 119]⟩, .string (toB p), .slice none 0 0] 2 rfl (by unfold maxLen; decide)
theorem opsU17 (w : World) (p : Nm) : Own w (w.alloc (.cells #[.int .i64 6, .string (toB p), .string ⟨#[]⟩, .slice none 0 0] 40)) [rowO (.slice (some ⟨w.heap.size, 0, none⟩) 1 1) (opsT (tsU p))] :=
  (Own.start w).made 40 4 #[.int .i64 6, .string (toB p), .string ⟨#[]⟩, .slice none 0 0] 1 rfl (by unfold maxLen; decide)
theorem opsA17 (w : World) (p : Nm) : Own w (w.alloc (.cells #[.int .i64 5, .string (toB p), .string ⟨#[47, 97, 119, 97, 121]⟩, .slice none 0 0, .int .i64 5, .string ⟨#[47, 97, 119, 97, 121]⟩, .string (toB p), .slice none 0 0] 40)) [rowO (.slice (some ⟨w.heap.size, 0, none⟩) 2 2) (opsT (tsA p))] :=
  (Own.start w).made 40 4 #[.int .i64 5, .string (toB p), .string ⟨#[47, 97, 119, 97, 121]⟩, .slice none 0 0, .int .i64 5, .string ⟨#[47, 97, 119, 97, 121]⟩, .string (toB p), .slice none 0 0] 2 rfl (by unfold maxLen; decide)
theorem opsW17 (w : World) (p : Nm) (k : Nat) : Own w ((w.alloc (.cells #[.int .u8 k] 5)).alloc (.cells #[.int .i64 3, .string (toB p), .string ⟨#[]⟩, .slice (some ⟨w.heap.size, 0, none⟩) 1 1] 40)) [rowO (.slice (some ⟨w.heap.size + 1, 0, none⟩) 1 1) [⟨3, toB p, ⟨#[]⟩, some ⟨w.heap.size, 0, none⟩, 1, 1⟩], rowU (.slice (some ⟨w.heap.size, 0, none⟩) 1 1) [(k : Int)]] :=
  ((Own.start w).made_at 5 1 #[.int .u8 k] 1 w.heap.size rfl rfl (by unfold maxLen; decide)).made_at 40 4 #[.int .i64 3, .string (toB p), .string ⟨#[]⟩, .slice (some ⟨w.heap.size, 0, none⟩) 1 1] 1 (w.heap.size + 1) (by simp) rfl (by unfold maxLen; decide)
def NoteR (w0 : World) (v mb tb g sb nb k : Nat) (u : Nm) (b8 c8 : Nat) (i : Value) (wr : World) : Prop := ∃ j : Nat, i = .int .i64 j ∧ j ≤ (filesN u).length ∧ NhI w0 v mb tb g sb nb k u j wr ∧ ∀ q (hq : q < (filesN u).length), wr.cell? ⟨b8, q, none⟩ = some (.string (toB (filesN u)[q]))
def VdR (f : Nm → Bool) (w7 : World) (s i : Value) (wx : World) : Prop := ∃ q : Nat, i = .int .i64 q ∧ q ≤ 4 ∧ s = .int .i64 (((all4.take q).filter f).length : Nat) ∧ Below w7.heap.size w7 wx
def OldR (w : World) (r b : Nat) (m ns : List (Nm × Int)) (s : Value) (wx : World) : Prop := ∃ oi o done left, RWI w r b m oi o done left wx ∧ s = .bool (done.any fun q => nowOf ns q.1 != q.2)
def NhR (w0 : World) (v mb tb g sb nb n : Nat) (s i : Value) (wr : World) : Prop := s = .bool false ∧ ∃ k : Nat, i = .int .i64 k ∧ k ≤ n ∧ NhS w0 v mb tb g sb nb k wr
set_option maxHeartbeats 32000000 in
theorem hits_law17 (a : Option Addr) (l : List (Int × Int)) (cap : Nat) (w : World) (hm : Mx w) (ha : Acts17 w a l) : Calls Tryz.prog 3 #[.slice a l.length cap] w fun e w' => e = .returned (.bool true) ∧ Below w.heap.size w w' := by
  have hal := alive17 w hm
  have HM := Lib.hid hm
  have HA := Lib.hid ha
  obtain ⟨n, hn⟩ : ∃ n, l.length = n := ⟨_, rfl⟩
  have HN := Lib.hid hn
  rw [hn]
  clear hm ha hn
  go_enter Tryz.func3, Tryz.ntmps3
  go_wp2_with fail
  refine hal.mono ?_
  rintro e w1 ⟨rfl, hb1⟩
  have HB1 := Lib.hid hb1
  have HM1 := Lib.hid (HM.out.later hb1)
  have hop := open17 w1 HM1.out
  clear hal hb1
  by_cases h60 : (60 : Int) < (n : Int)
  · clear hop
    go_wp2_with fail
    go_ret
    exact ⟨rfl, HB1.out⟩
  have HL := Lib.hid (show n ≤ 60 by omega)
  go_wp2_with fail
  refine hop.mono ?_
  rintro e w2 ⟨v, mb, tb, g, rfl, h2⟩
  obtain ⟨S, hO, hme⟩ := mem_start w2
  have H3 := Lib.hid (show NhS w1 v mb tb g w2.heap.size (w2.heap.size + 1) 0 _ from ⟨VN, [], fun _ => [], [], S ++ [], 0, Nat.le_refl _, MgAt.push (ord := ⟨ordU usN, [], []⟩) h2 hO, by rw [List.append_nil]; exact hme, rel_start, bud_start⟩)
  have hs1 : (w2.alloc (.map #[] 0)).heap.size = w2.heap.size + 1 := by simp
  have hmk : ∀ w : World, (Instr.makeMap 28 none).run Tryz.prog w = .ok (.map (some w.heap.size)) (w.alloc (.map #[] 0)) := fun w => rfl
  have hmk2 : ∀ w : World, (Instr.makeMap 29 none).run Tryz.prog w = .ok (.map (some w.heap.size)) (w.alloc (.map #[] 0)) := fun w => rfl
  clear hop h2 hO hme
  go_wp2_with fail
  generalize w2.heap.size = sb at *
  generalize sb + 1 = nb at *
  generalize (w2.alloc (.map #[] 0)).alloc (.map #[] 0) = w3 at *
  go_loopw [2, 33] (fun s i wr => NhR w1 v mb tb g sb nb n s i wr) (fun _ i _ => n - (intOf i).toNat)
  case atStart => exact ⟨rfl, 0, rfl, Nat.zero_le _, H3.out⟩
  case round =>
    obtain ⟨rfl, k, rfl, hk, hS⟩ := hrel
    clear H3 hs1 hmk
    by_cases hlt : k < n
    · have hkl : k < l.length := by rw [HN.out]; exact hlt
      obtain ⟨ag, ao, rfl, a0, a1⟩ := HA.out.later (HB1.out.trans (hS.below.mono HB1.out.size)) k hkl
      have hki : (k : Int) < (n : Int) := by omega
      have hkb : (k : Int) ≤ 100 := by have := HL.out; omega
      have HK := Lib.hid hlt
      generalize l[k].1 = κ at *
      generalize l[k].2 = α at *
      clear hkl
      obtain ⟨j, hj, hj4⟩ := and3h α
      obtain ⟨m0, hm0, hm1⟩ := and1023 α
      obtain ⟨m, hm, hm5⟩ : ∃ m : Nat, Int.tmod (bits .and .i64 α 1023) 5 = (m : Int) ∧ m < 5 := ⟨m0 % 5, by rw [hm0]; rfl, by omega⟩
      have hO1 := (Own.start wr).newB (.cells #[.int .i64 κ, .int .i64 α] 31)
      have hs1 : (wr.alloc (.cells #[.int .i64 κ, .int .i64 α] 31)).heap.size = wr.heap.size + 1 := by simp
      have HO1 := Lib.hid hO1
      have HS := Lib.hid (hS.later hO1.below)
      have HJ := Lib.hid hj4
      have HM5 := Lib.hid hm5
      have hb0 := hO1.cellB (List.mem_cons_self ..) 0
      have hb1 := hO1.cellB (List.mem_cons_self ..) 1
      obtain ⟨u, hu, hu9⟩ : ∃ u, u ∈ all4 ∧ ∀ h, ([.string ⟨#[117]⟩, .string ⟨#[118]⟩, .string ⟨#[119]⟩, .string ⟨#[120]⟩] : List Value)[j]'h = .string (toB u) := by
        rcases (show j = 0 ∨ j = 1 ∨ j = 2 ∨ j = 3 by omega) with rfl | rfl | rfl | rfl <;> exact ⟨_, by first | exact List.mem_cons_self .. | (apply List.mem_cons_of_mem; first | exact List.mem_cons_self .. | (apply List.mem_cons_of_mem; first | exact List.mem_cons_self .. | (apply List.mem_cons_of_mem; exact List.mem_cons_self ..))), fun _ => rfl⟩
      have HU := Lib.hid hu
      obtain ⟨p0, p1, p2⟩ := pth_name m hm5
      obtain ⟨p, hp⟩ : ∃ p, p = pths[m]'p1 := ⟨_, rfl⟩
      rw [← hp] at p2
      obtain ⟨xb, hxb⟩ : ∃ xb, toB (nms5[m]'p0) = xb := ⟨_, rfl⟩
      rw [hxb] at p2
      have hsz : xb.size ≤ 100 := hxb ▸ nms5_len m p0
      have HXB := Lib.hid hxb
      clear hxb
      have HP := Lib.hid (show p ∈ pths from hp ▸ List.getElem_mem _)
      have HP2 := Lib.hid p2
      obtain ⟨w5, hw5⟩ : ∃ w5, w5 = (wr.alloc (.cells #[.int .i64 κ, .int .i64 α] 31)).alloc (.cells #[.string ⟨#[117]⟩, .string ⟨#[118]⟩, .string ⟨#[119]⟩, .string ⟨#[120]⟩] 9) := ⟨_, rfl⟩
      have hO5 : Own ⟨wr, [(wr.heap.size, .cells #[.int .i64 κ, .int .i64 α] 31)]⟩ w5 [] := by rw [hw5]; exact hO1.alloc _
      have d0 : w5.cell? ⟨wr.heap.size, 0, none⟩ = some (.int .i64 κ) := hO5.cellB (List.mem_cons_self ..) 0
      have d1 : w5.cell? ⟨wr.heap.size, 1, none⟩ = some (.int .i64 α) := hO5.cellB (List.mem_cons_self ..) 1
      have hmi : (m : Int) < 5 := by omega
      have hmi0 : (0 : Int) ≤ (m : Int) := by omega
      have HS5 := Lib.hid (hS.later hO5.below)
      have HB5 := Lib.hid hO5.below
      have hlt5 : wr.heap.size < w5.heap.size := (hO5.atLt (List.mem_cons_self ..)).2
      clear hS hO1 hlt hk hm0 hm1 hp p2 hu HO1 HS hO5
      go_upto_region 12 with fail
      try simp only [hu9]
      rw [← hw5]
      clear hw5 a0 a1 hb0 hb1 hu9
      go_cut [10] (fun s10 wc => s10 = .string (toB p) ∧ (wc.cell? ⟨wr.heap.size, 0, none⟩ = some (.int .i64 κ) ∧ wc.cell? ⟨wr.heap.size, 1, none⟩ = some (.int .i64 α)) ∧ NhS w1 v mb tb g sb nb k wc)
      case first =>
        go_region_with (go_at_call 7; refine (names17 _).mono ?_; rintro e w7 ⟨g7, rfl, h7⟩; have s7 : w7.cell? ⟨wr.heap.size, 0, none⟩ = some (.int .i64 κ) ∧ w7.cell? ⟨wr.heap.size, 1, none⟩ = some (.int .i64 α) := ⟨(h7.below.cell (p := ⟨wr.heap.size, 0, none⟩) (by exact hlt5)).trans d0, (h7.below.cell (p := ⟨wr.heap.size, 1, none⟩) (by exact hlt5)).trans d1⟩; obtain ⟨r0, r1⟩ := id s7; have q7 := sts_cell (h7.only (r := rowSs (.slice (some ⟨g7, 0, none⟩) 5 5) nms5) (List.mem_cons_self ..)).sts m p0; rw [HXB.out] at q7; (first | have HS7 := Lib.hid (HS5.out.later h7.below) | have HS7 := Lib.hid (HS5.out.later ((Below.refl _ w5).drew.trans h7.below))); clear h7)
        all_goals
          go_wp2_with fail
          go_meet
          exact ⟨by rw [← HP2.out], s7, HS7.out⟩
      case rest =>
        obtain ⟨rfl, ⟨c0, c1⟩, hS⟩ := hcut
        have HS := Lib.hid hS
        clear hS d0 d1 HS5
        have HE := Lib.hid (fun (W : World) (h : NhS w1 v mb tb g sb nb (k + 1) W) => (show NhR2 w1 v mb tb g sb nb k (.bool false) (.int .i64 (k : Int)) W from ⟨rfl, rfl, h⟩))
        clear hsz hmi hmi0 HB5 hlt5 HXB HP2
        go_upto_block 2 with fail
        go_cut [2, 12, 33] (fun s2 _ s33 wc => NhR2 w1 v mb tb g sb nb k s2 s33 wc)
        case first =>
          have hk60 : k ≤ 60 := by have := HL.out; have := HK.out; omega
          go_wp2_with fail
          · refine (start_nh HS.out HM1.out hk60 HU.out).mono ?_
            rintro e w6 ⟨c, rfl, h1, h2⟩
            by_cases hc : c = 0
            · obtain ⟨o', e1, h3⟩ := h2 hc
              subst hc
              generalize hw7 : setBlock (w6.alloc (.map #[] 0)) sb o' = w7 at *
              have H3 := Lib.hid h3
              have hfl := files17_any u HU.out w7
              clear h1 h2 h3 c0 c1
              go_wp2_with fail
              refine hfl.mono ?_
              rintro e w8 ⟨b8, c8, rfl, h8⟩
              have H8 := Lib.hid (show NoteR w1 v mb tb g sb nb k u b8 c8 (.int .i64 0) w8 from ⟨0, rfl, Nat.zero_le _, H3.out.later h8.below, fun i hi => sts_cell (h8.only (r := rowSs (.slice (some ⟨b8, 0, none⟩) (filesN u).length c8) (filesN u)) (List.mem_cons_self ..)).sts i hi⟩)
              clear hfl h8 e1 hw7 H3
              go_wp2_with fail
              go_loopw [66] (fun i wr => NoteR w1 v mb tb g sb nb k u b8 c8 i wr) (fun i _ => (filesN u).length - (intOf i).toNat)
              case atStart => exact H8.out
              case round =>
                obtain ⟨j, rfl, hj, hI, hC⟩ := hrel
                clear H8
                by_cases hjl : j < (filesN u).length
                · have hji : (j : Int) < ((filesN u).length : Int) := by omega
                  have hj0 : (0 : Int) ≤ (j : Int) := by omega
                  have hjb : (j : Int) ≤ 100 := by have := files_few HU.out; omega
                  have cj := hC j hjl
                  obtain ⟨b, i, o', e1, e2, e3, h4, hkeep⟩ := note_nh hI HU.out hjl
                  have H4 := Lib.hid (show NoteR w1 v mb tb g sb nb k u b8 c8 (.int .i64 ((j + 1 : Nat) : Int)) _ from ⟨j + 1, rfl, hjl, h4, fun i hi => hkeep _ _ (hC i hi)⟩)
                  have HJ := Lib.hid hjl
                  clear hI hC h4 hkeep hj
                  generalize toB (filesN u)[j] = fb at *
                  clear hjl
                  go_wp2_with fail
                  go_roundw
                  case rel =>
                    have := H4.out
                    rwa [show (.int .i64 ((j + 1 : Nat) : Int) : Value) = _ from by go_num] at this
                  case measure => have := HJ.out; simp [intOf]; omega
                · obtain rfl : j = (filesN u).length := by omega
                  have H9 := Lib.hid (HE.out _ (noted_nh hI))
                  clear hI hC hj hjl
                  go_wp2_with fail
                  go_meet
                  exact H9.out
            · have h3 := h1 hc
              have H3 := Lib.hid (HE.out _ h3)
              have hc0 : (c == 0) = false := by simpa using hc
              clear h1 h2 h3 hc c0 c1
              go_wp2_with fail
              go_meet
              exact H3.out
          · refine (fail_nh HS.out HM1.out hk60 HU.out).mono ?_
            rintro e w6 ⟨c, rfl, h1, h2⟩
            by_cases hc : c = 0
            · obtain ⟨o', e1, h3⟩ := h2 hc
              subst hc
              have H3 := Lib.hid (HE.out _ h3)
              clear h1 h2 h3 c0 c1
              go_wp2_with fail
              go_meet
              exact H3.out
            · have H3 := Lib.hid (HE.out _ (h1 hc))
              have hc0 : (c == 0) = false := by simpa using hc
              clear h1 h2 hc c0 c1
              go_wp2_with fail
              go_meet
              exact H3.out
          · refine (replace_nh HS.out HM1.out hk60 HP.out 2 (opsR17 wc p)).mono ?_
            rintro e w6 ⟨c, rfl, h1, h2⟩
            by_cases hc : c = 0
            · obtain ⟨o', e1, h3⟩ := h2 hc
              subst hc
              have H3 := Lib.hid (HE.out _ h3)
              clear h1 h2 h3 c0 c1
              go_wp2_with fail
              go_meet
              exact H3.out
            · have H3 := Lib.hid (HE.out _ (h1 hc))
              have hc0 : (c == 0) = false := by simpa using hc
              clear h1 h2 hc c0 c1
              go_wp2_with fail
              go_meet
              exact H3.out
          · refine (unlink_nh HS.out HM1.out hk60 HP.out 1 (opsU17 wc p)).mono ?_
            rintro e w6 ⟨c, rfl, h1, h2⟩
            by_cases hc : c = 0
            · obtain ⟨o', e1, h3⟩ := h2 hc
              subst hc
              have H3 := Lib.hid (HE.out _ h3)
              clear h1 h2 h3 c0 c1
              go_wp2_with fail
              go_meet
              exact H3.out
            · have H3 := Lib.hid (HE.out _ (h1 hc))
              have hc0 : (c == 0) = false := by simpa using hc
              clear h1 h2 hc c0 c1
              go_wp2_with fail
              go_meet
              exact H3.out
          · refine (write_nh HS.out HM1.out hk60 HP.out 1 (z := (k : Int)) (by omega) (opsW17 wc p k)).mono ?_
            rintro e w6 ⟨c, rfl, h1⟩
            have H3 := Lib.hid (HE.out _ h1)
            clear h1 c0 c1
            go_wp2_with fail
            go_meet
            exact H3.out
          · refine (away_nh HS.out HM1.out hk60 HP.out 2 (opsA17 wc p)).mono ?_
            rintro e w6 ⟨c, rfl, h1⟩
            have H3 := Lib.hid (HE.out _ h1)
            clear h1 c0 c1
            go_wp2_with fail
            go_meet
            exact H3.out
          · go_meet
            exact HE.out _ HS.out.skip
        case rest =>
          obtain ⟨rfl, rfl, hS2⟩ := hcut
          obtain ⟨f, es, inn, ns, kh, hl, kof, know, ksi⟩ := ask_nh hS2 HM1.out (by have := HL.out; have := HK.out; omega)
          have HLT := Lib.hid hl
          have HKO := Lib.hid kof
          have HKN := Lib.hid know
          have HKS := Lib.hid ksi
          clear c0 c1 HS HE hS2 hl kof know ksi
          go_wp2_with fail
          refine kh.mono ?_
          rintro e w6 ⟨v6, rfl, h6⟩
          obtain ⟨a6, c6, hv6, k60, k61⟩ := Own.sized (h := (show Own wc w6 (⟨9, 1, v6, (all4.filter f).length, strs (all4.filter f)⟩ :: []) from h6))
          subst hv6
          have HB6 := Lib.hid h6.below
          have hst6 := (h6.only (r := rowSs (.slice a6 (all4.filter f).length c6) (all4.filter f)) (List.mem_cons_self ..)).sts
          have HSt := Lib.hid hst6
          have hO7 := (Own.start w6).made 9 1 #[.string ⟨#[117]⟩, .string ⟨#[118]⟩, .string ⟨#[119]⟩, .string ⟨#[120]⟩] 4 rfl (by unfold maxLen; decide)
          have HO7 := Lib.hid (show Own w6 _ [rowSs (.slice (some ⟨w6.heap.size, 0, none⟩) 4 4) all4] from hO7)
          have hfl4 : (all4.filter f).length ≤ 4 := List.length_filter_le f all4
          generalize hfl : (all4.filter f).length = fl at *
          have HFL := Lib.hid hfl
          clear hfl kh h6 hst6 hO7
          go_wp2_with fail
          obtain ⟨gb, hgb⟩ : ∃ gb, w6.heap.size = gb := ⟨_, rfl⟩
          rw [hgb] at HO7 ⊢
          generalize w6.alloc (.cells #[.string ⟨#[117]⟩, .string ⟨#[118]⟩, .string ⟨#[119]⟩, .string ⟨#[120]⟩] 9) = w7 at *
          clear hgb
          go_loopw [2, 14, 136] (fun s2 s14 s136 wx => s2 = .bool false ∧ VdR f w7 s14 s136 wx) (fun _ _ i _ => 4 - (intOf i).toNat)
          case atStart => exact ⟨rfl, 0, rfl, Nat.zero_le _, rfl, Below.refl _ _⟩
          case round =>
            obtain ⟨rfl, q, rfl, hq, rfl, hB⟩ := hrel
            by_cases hq4 : q < 4
            · have hqi : (q : Int) < 4 := by omega
              have hq0 : (0 : Int) ≤ (q : Int) := by omega
              obtain ⟨u2, hu2⟩ : ∃ u2, all4[q]'hq4 = u2 := ⟨_, rfl⟩
              have hu4 : u2 ∈ all4 := hu2 ▸ List.getElem_mem hq4
              have hc7 := sts_cell (HO7.out.only (r := rowSs (.slice (some ⟨gb, 0, none⟩) 4 4) all4) (List.mem_cons_self ..)).sts q hq4
              rw [hu2] at hc7
              have cq : wr.cell? ⟨gb, q, none⟩ = some (.string (toB u2)) := (hB.cell (p := ⟨gb, q, none⟩) (World.block_lt_of_cell? w7 _ hc7)).trans hc7
              have hBc : Below wc.heap.size wc wr := HB6.out.trans ((HO7.out.below.trans (hB.mono HO7.out.below.size)).mono HB6.out.size)
              have hfs := filt_succ f all4 q hq4
              rw [hu2] at hfs
              have HQ := Lib.hid hq4
              have HBw := Lib.hid hB
              have HFS := Lib.hid hfs
              clear hB hfs hc7 hq
              generalize hcn : ((all4.take q).filter f).length = cn at *
              have HCN := Lib.hid hcn
              clear hcn
              rcases HKS.out u2 hu4 with ⟨hf, hlk⟩ | ⟨b, o, hf, hb, ho, hlk⟩
              · have hlk1 := hlk wr hBc
                have hrg := run_range_nilMap (P := Tryz.prog) wr 29 9 3 und_ints
                have hnx := fun ty => run_next_nilMap (P := Tryz.prog) wr ty 0 0 #[]
                have hof := HKO.out (wr.alloc (.mapIter none 0 #[] 0)) u2 (hBc.alloc hBc.size _) hu4
                rw [hf] at hof
                have HBa := Lib.hid ((HBw.out.alloc HBw.out.size (.mapIter none 0 #[] 0)))
                have HF := Lib.hid hf
                clear hlk hf hBc
                go_wp2_with fail
                go_loopw [17] (fun s wx => s = .bool false ∧ wx = wr.alloc (.mapIter none 0 #[] 0)) (fun _ _ => 0)
                case atStart => exact ⟨rfl, rfl⟩
                case round =>
                  obtain ⟨rfl, rfl⟩ := hrel
                  go_wp2_with fail
                  refine hof.mono ?_
                  rintro e w9 ⟨rfl, hb9⟩
                  have H9 := Lib.hid (show VdR f w7 (.int .i64 (cn : Nat)) (.int .i64 ((q + 1 : Nat) : Int)) w9 from ⟨q + 1, rfl, HQ.out, by rw [HFS.out, HF.out]; rfl, HBa.out.trans (hb9.mono HBa.out.size)⟩)
                  clear hof hb9 hrg hnx hlk1
                  go_wp2_with fail
                  go_roundw
                  case rel =>
                    have := H9.out
                    rw [show (.int .i64 ((q + 1 : Nat) : Int) : Value) = _ from by go_num] at this
                    exact ⟨rfl, this⟩
                  case measure => have := HQ.out; simp [intOf]; omega
              · have hlk1 := hlk wr hBc
                have hbw : wr.heap[b]? = some o := (hBc.block b (lt_of_heap hb)).trans hb
                obtain ⟨oi, hrg, hW⟩ := RWI.start hbw ho (Below.refl _ wr)
                obtain ⟨r, hr⟩ : ∃ r, wr.heap.size = r := ⟨_, rfl⟩
                rw [hr] at hrg hW
                have HR := Lib.hid hr
                have HF := Lib.hid hf
                have HBC := Lib.hid hBc
                have H1 := Lib.hid (show OldR wr r b (inn u2) ns (.bool false) (wr.alloc oi) from ⟨oi, o, [], inn u2, hW, rfl⟩)
                clear hlk hf hBc hb ho hbw hW hr
                go_wp2_with fail
                generalize wr.alloc oi = wy at *
                go_loopw [17] (fun s wx => OldR wr r b (inn u2) ns s wx) (fun _ wx => leftG wx b r)
                case atStart => exact H1.out
                case round =>
                  obtain ⟨oi2, o2, done, left, hW, rfl⟩ := hrel
                  clear H1
                  have hle := hW.left_eq
                  have hperm := hW.2.2.2.1
                  have hWb := hW.2.2.2.2.1
                  rcases hW.next with ⟨rfl, hnx⟩ | ⟨l1, l2, pe, oi', w2', rfl, hw1, hnx, hW', hp, hen⟩
                  · have hd : (done.any fun q => nowOf ns q.1 != q.2) = f u2 := by
                      rw [HF.out]
                      rw [List.append_nil] at hperm
                      exact hperm.any_eq
                    rw [hd]
                    have hof := HKO.out wr u2 (HBC.out.trans (hWb.mono HBC.out.size)) hu4
                    have HWb := Lib.hid (HBw.out.trans (hWb.mono HBw.out.size))
                    have HU2 := Lib.hid hu2
                    clear hW hle hperm hWb hd hlk1
                    generalize hfu : f u2 = fu at *
                    have HFU := Lib.hid hfu
                    cases fu with
                    | false =>
                      clear hfu
                      go_wp2_with fail
                      refine hof.mono ?_
                      rintro e w9 ⟨rfl, hb9⟩
                      have H9 := Lib.hid (show VdR f w7 (.int .i64 (cn : Nat)) (.int .i64 ((q + 1 : Nat) : Int)) w9 from ⟨q + 1, rfl, HQ.out, by rw [HFS.out]; rfl, HWb.out.trans (hb9.mono HWb.out.size)⟩)
                      clear hof hb9 hnx
                      go_wp2_with fail
                      go_roundw
                      case rel =>
                        have := H9.out
                        rw [show (.int .i64 ((q + 1 : Nat) : Int) : Value) = _ from by go_num] at this
                        exact ⟨rfl, this⟩
                      case measure => have := HQ.out; simp [intOf]; omega
                    | true =>
                      obtain ⟨hi1, hi2⟩ := filt_at f all4 q HQ.out (by rw [HU2.out]; exact hfu)
                      have hget : ∀ c (hc : c = ((all4.take q).filter f).length) (h : c < (all4.filter f).length), (all4.filter f)[c] = u2 := fun c hc h => by subst hc; exact hi2.trans HU2.out
                      have hcl : cn < fl := by rw [← HCN.out, ← HFL.out]; exact hi1
                      have hcl0 : cn < (all4.filter f).length := by rw [HFL.out]; exact hcl
                      obtain ⟨a', c', e', _, _, g1⟩ := HSt.out
                      obtain ⟨b6, o6, h61, _, h63⟩ := g1 (by omega)
                      injection e' with ea eb ec
                      rw [h61] at ea
                      subst ea
                      have hh := h63 cn hcl0
                      rw [hget cn HCN.out.symm hcl0] at hh
                      have hci : (cn : Int) < (fl : Int) := by omega
                      have hci0 : (0 : Int) ≤ (cn : Int) := by omega
                      have hci1 : (cn : Int) ≤ 100 := by omega
                      have HHH := Lib.hid hh
                      clear hfu hi1 hi2 hget hcl hcl0 g1 h63 h61 eb ec hh
                      go_wp2_with fail
                      refine hof.mono ?_
                      rintro e w9 ⟨rfl, hb9⟩
                      have HB9 := Lib.hid (HWb.out.trans (hb9.mono HWb.out.size))
                      have h9 : w9.cell? ⟨b6, o6 + cn, none⟩ = some (.string (toB u2)) := ((HO7.out.below.trans (HB9.out.mono HO7.out.below.size)).cell (p := ⟨b6, o6 + cn, none⟩) (World.block_lt_of_cell? w6 _ HHH.out)).trans HHH.out
                      have H9 := Lib.hid (show VdR f w7 (.int .i64 ((cn + 1 : Nat) : Int)) (.int .i64 ((q + 1 : Nat) : Int)) w9 from ⟨q + 1, rfl, HQ.out, by rw [HFS.out]; rfl, HB9.out⟩)
                      clear hof hb9 hnx
                      go_wp2_with fail
                      go_roundw
                      case rel =>
                        have := H9.out
                        rw [show (.int .i64 ((q + 1 : Nat) : Int) : Value) = _ from by go_num, show (.int .i64 ((cn + 1 : Nat) : Int) : Value) = _ from by go_num] at this
                        exact ⟨rfl, this⟩
                      case measure => have := HQ.out; simp [intOf]; omega
                  · have hWb2 := hW'.2.2.2.2.1
                    obtain ⟨e1, e2⟩ := hW'.entry
                    have hent := hen _ e1 e2
                    have hkn := HKN.out (setBlock w2' r oi') pe.1 (HBC.out.trans (hWb2.mono HBC.out.size))
                    have hmeas : (l1 ++ l2).length < leftG wr b r := by rw [hle]; simp
                    have HW2 := Lib.hid hW'
                    have HME := Lib.hid hmeas
                    have hany : ((done ++ [pe]).any fun q => nowOf ns q.1 != q.2) = ((done.any fun q => nowOf ns q.1 != q.2) || (nowOf ns pe.1 != pe.2)) := by rw [List.any_append]; simp
                    have HAN := Lib.hid hany
                    clear hW hle hperm hWb hW' hp hen hw1 hWb2 e1 e2 hmeas hany hlk1
                    obtain ⟨pn, pi⟩ := pe
                    dsimp only at hent hkn hnx
                    generalize hnn : nowOf ns pn = nx at *
                    generalize hdd : (done.any fun q => nowOf ns q.1 != q.2) = dd at *
                    have HDD := Lib.hid hdd
                    have HNN := Lib.hid hnn
                    clear hdd hnn
                    generalize setBlock w2' r oi' = w2 at *
                    generalize toB pn = pb at *
                    cases dd with
                    | true =>
                      go_wp2_with fail
                      go_roundw
                      case rel => exact ⟨oi', o2, _, _, HW2.out, by rw [HAN.out]; simp⟩
                      case measure => rw [HW2.out.left_eq]; exact HME.out
                    | false =>
                      go_wp2_with fail
                      go_roundw
                      case rel => exact ⟨oi', o2, _, _, HW2.out, by rw [HAN.out]; simp [bne]⟩
                      case measure => rw [HW2.out.left_eq]; exact HME.out
            · obtain rfl : q = 4 := by omega
              have hcn : ((all4.take 4).filter f).length = fl := HFL.out
              have H5 := Lib.hid (HLT.out wr (HB6.out.trans ((HO7.out.below.trans (hB.mono HO7.out.below.size)).mono HB6.out.size)))
              rw [hcn]
              have HK2 := Lib.hid (show NhR w1 v mb tb g sb nb n (.bool false) (.int .i64 ((k + 1 : Nat) : Int)) wr from ⟨rfl, k + 1, rfl, HK.out, H5.out⟩)
              clear hB hcn hq hq4
              go_wp2_with fail
              go_roundw
              case rel =>
                have := HK2.out
                rwa [show (.int .i64 ((k + 1 : Nat) : Int) : Value) = _ from by go_num] at this
              case measure => have := HK.out; simp [intOf]; omega
    · obtain rfl : k = n := by omega
      have HE := Lib.hid (HB1.out.trans (hS.below.mono HB1.out.size))
      clear hS
      go_wp2_with fail
      go_ret
      exact ⟨rfl, HE.out⟩
end Go.Proofs.YtkhnkidggcjfeaaGreatDoor
end
section
namespace Go.Proofs.YtkhnkidggcjfeaaGreatDoor
open Go.RowKit
theorem mx_of {W : World} (h : W.ShapedOpen Tryz.prog) : Mx W := by
  obtain ⟨m, hm⟩ : ∃ m, W.cell? ⟨0, 0, none⟩ = some (.int .i64 m) := cell_of_shapedOpen_int (zero := #[.int .i64 0]) (t := 3) (k := .i64) h (of_decide_eq_true (by kernel_rfl)) (by kernel_rfl) rfl (by kernel_rfl) (by kernel_rfl) (by kernel_rfl)
  exact ⟨World.block_lt_of_cell? W _ hm, m, hm⟩
end Go.Proofs.YtkhnkidggcjfeaaGreatDoor
end
