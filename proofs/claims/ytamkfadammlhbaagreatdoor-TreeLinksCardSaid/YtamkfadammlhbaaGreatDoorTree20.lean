/- Do, where all goes well. -/
import Derived.Test.YtamkfadammlhbaaGreatDoorTree19
namespace Go.Proofs.YtamkfadammlhbaaGreatDoor
open Go.RowKit
open Go.ChangeMaps (setBlock)
set_option linter.unusedVariables false
set_option linter.unusedSimpArgs false
set_option maxRecDepth 100000

/-- An operation as plain data: its kind, its paths, its bytes' slice. -/
structure OpD where
  kind : Int
  p : ByteArray
  q : ByteArray
  a : Option Addr
  n : Nat
  c : Nat
abbrev OpD.cells (o : OpD) : List Value := opL o.kind o.p o.q (.slice o.a o.n o.c)
theorem info_op (o : OpD) : (Tryz.prog.info? 38).map (·.size) = some o.cells.length := by
  have : (Tryz.prog.info? 38).map (·.size) = some 4 := by kernel_rfl
  exact this
theorem op_one (o : OpD) : ∀ v ∈ o.cells, v.oneCell' = true := by
  intro v hv
  simp only [OpD.cells, opL, List.mem_cons, List.not_mem_nil, or_false] at hv
  rcases hv with rfl | rfl | rfl | rfl <;> rfl
/-- The state behind i operations: the clone at c, beside all that was there. -/
def DoRel (w0 : World) (S : Blocks) (L : List Rw) (w : World) (c : Nat) (P : Nat → Tr → Prop) (i : Nat) (wr : World) : Prop :=
  ∃ S' L' T', Own ⟨w0, S'⟩ wr L' ∧ (∀ x ∈ L, x ∈ L') ∧ Tree S' (Pc L') c T' ∧ (∀ b x, (b, x) ∈ S → (b, x) ∈ S') ∧ (∀ b ∈ c :: T'.foot, w.heap.size ≤ b) ∧ P i T' ∧ Mx wr ∧ w.heap.size ≤ wr.heap.size
theorem DoRel.step {w0 w wr w' : World} {S S2 : Blocks} {L L2 : List Rw} {c i : Nat} {T2 : Tr} {P : Nat → Tr → Prop} {r : Value} {e : Ending} (hd : DoL w0 S2 L2 c T2 wr (P (i + 1)) r e w') (hL : ∀ x ∈ L, x ∈ L2) (hs : ∀ b x, (b, x) ∈ S → (b, x) ∈ S2) (hh : ∀ b ∈ c :: T2.foot, w.heap.size ≤ b) (hlt : ∀ b x, (b, x) ∈ S → b < w.heap.size) (hw : w.heap.size ≤ wr.heap.size) (hmx : ∀ S' L' w', Own ⟨w0, S'⟩ w' L' → Mx w') :
    e = .returned r ∧ DoRel w0 S L w c P (i + 1) w' := by
  obtain ⟨S', L', T', h1, h2, h3, h4, h5, h6⟩ := hd
  have hcw := (h2.atLt h4.at_.cells).2
  have hcl := hh c (List.mem_cons_self ..)
  refine ⟨h1, S', L', T', h2, fun x hx => h3 x (hL x hx), h4, fun b x hb => h5.kept b x (hs b x hb) fun hb2 => ?_, fun b hb => ?_, h6, hmx _ _ _ h2, by omega⟩
  · have := hlt b x hb
    have := hh b hb2
    omega
  · rcases h5.fresh b hb with h | h
    · exact hh b h
    · omega
/-- The tree takes the clone's place. -/
theorem Tree.moved {S' : Blocks} {D : Value → List Int → Prop} {c t : Nat} {T T' : Tr} (H : Tree S' D c T') (ht : (t, Obj.cells (treeCells T) 75) ∈ S') (hn : t ∉ T'.foot) : Tree (upd S' t (.cells (treeCells T') 75)) D t T' := by
  have hne : ∀ b ∈ T'.foot, b ≠ t := fun b hb e => hn (e ▸ hb)
  obtain ⟨o, h1, h2⟩ := H.at_.map
  refine ⟨⟨upd_same ht _, ⟨o, upd_other h1 (hne _ (List.mem_cons_self ..)) _, h2⟩, fun p hp => (H.at_.node p hp).mono (fun b x hb hx => upd_other hx (hne b (foot_mem hp hb)) _) (fun _ _ h => h)⟩, List.nodup_cons.2 ⟨hn, (List.nodup_cons.1 H.apart).2⟩, H.good⟩
theorem upd_upd (S : Blocks) (b : Nat) (o o' : Obj) : upd (upd S b o) b o' = upd S b o' := by
  unfold upd
  rw [List.map_map]
  apply List.map_congr_left
  intro m _
  simp only [Function.comp]
  by_cases h : m.1 = b
  · rw [if_pos h, if_pos rfl, if_pos h]
  · rw [if_neg h, if_neg h]
theorem store3 {w0 w5 : World} {S2 : Blocks} {L2 : List Rw} {t : Nat} {T T2 : Tr} (h5 : Own ⟨w0, S2⟩ w5 L2) (ht : (t, Obj.cells (treeCells T) 75) ∈ S2) :
    Own ⟨w0, upd S2 t (.cells (treeCells T2) 75)⟩ (((w5.setCell ⟨t, 0, none⟩ (.int .i64 T2.quota)).setCell ⟨t, 1, none⟩ (.int .i64 T2.next)).setCell ⟨t, 2, none⟩ (.map (some T2.bm))) L2 := by
  have h := ((h5.storeB ht 0 (.int .i64 T2.quota)).storeB (upd_same ht _) 1 (.int .i64 T2.next)).storeB (upd_same (upd_same ht _) _) 2 (.map (some T2.bm))
  rw [upd_upd, upd_upd] at h
  exact h
set_option maxHeartbeats 4000000 in
theorem do_all {w0 w : World} {S : Blocks} {L : List Rw} {t : Nat} {T : Tr} (hO : Own ⟨w0, S⟩ w L) (H : Tree S (Pc L) t T) (hm : Mx w) (hmx : ∀ S' L' w', Own ⟨w0, S'⟩ w' L' → Mx w') (g off : Nat) (ops : List OpD) (cap : Nat) (hn : ops.length ≤ 1000000)
    (hops : ∀ w' S' L', Own ⟨w0, S'⟩ w' L' → (∀ b x, (b, x) ∈ S → (b, x) ∈ S') → ∀ i (h : i < ops.length), w'.rangeAt g (off + i * 4) ops[i].cells) {P : Nat → Tr → Prop} (hP0 : ∀ T', Same T T' → P 0 T')
    (hstep : ∀ c i (h : i < ops.length) S' L' T' w', Own ⟨w0, S'⟩ w' L' → (∀ x ∈ L, x ∈ L') → Tree S' (Pc L') c T' → (∀ b x, (b, x) ∈ S → (b, x) ∈ S') → (∀ b ∈ c :: T'.foot, w.heap.size ≤ b) → P i T' → Mx w' → Calls Tryz.prog 34 #[.pointer (some ⟨c, 0, none⟩), .agg ops[i].cells.toArray] w' (DoL w0 S' L' c T' w' (P (i + 1)) (.int .i64 0)))
    (hend : ∀ T', P ops.length T' → sumT T'.nodes ≤ 1000000000 ∧ T'.nodes.length ≤ 128 ∧ (sumT T'.nodes : Int) ≤ T'.quota) :
    Calls Tryz.prog 14 #[.pointer (some ⟨t, 0, none⟩), .slice (some ⟨g, off, none⟩) ops.length cap] w (DoL w0 S L t T w (P ops.length) (.int .i64 0)) := by
  have hlt : ∀ b x, (b, x) ∈ S → b < w.heap.size := fun b x hb => (hO.atLt hb).2
  have htl : t < w.heap.size := hlt _ _ H.at_.cells
  have hcl := clone_t hO H
  have HT := Lib.hid H
  have HOps := Lib.hid hops
  have HStep := Lib.hid hstep
  have HEnd := Lib.hid hend
  have HP0 := Lib.hid hP0
  clear hops hstep hend hP0 H
  have hsz0 := hO.size
  clear hO
  go_enter Tryz.func14, Tryz.ntmps14
  go_wp2_with fail
  refine hcl.mono ?_
  rintro e wc ⟨c, S1, T1, rfl, h1, h2, h3, h4, h5⟩
  have hwc : w.heap.size ≤ wc.heap.size := by
    have := (h1.atLt h2.at_.cells).2
    have := h4 c (List.mem_cons_self ..)
    omega
  have HR := Lib.hid (show DoRel w0 S L w c P 0 wc from ⟨S1, L, T1, h1, fun _ h => h, h2, h3, h4, HP0.out _ h5, hmx _ _ _ h1, hwc⟩)
  clear hcl h1 h2 h3 h4 h5 HP0
  go_wp2_with fail
  go_loopw [14] (fun i wr => ∃ k : Nat, k ≤ ops.length ∧ i = .int .i64 k ∧ DoRel w0 S L w c P k wr) (fun i _ => ops.length - (intOf i).toNat)
  case atStart => exact ⟨0, Nat.zero_le _, rfl, HR.out⟩
  case round =>
    obtain ⟨k, hk, rfl, hR⟩ := hrel
    have HR1 := Lib.hid hR
    obtain ⟨S2, L2, T2, k1, k2, k3, k4, k5, k6, k7, k8⟩ := hR
    by_cases hkl : k < ops.length
    · have Hr := Lib.hid (HOps.out wr S2 L2 k1 k4 k hkl)
      have HO := Lib.hid k1
      obtain ⟨od, hod⟩ : ∃ od, od = ops[k] := ⟨_, rfl⟩
      rw [← hod] at Hr
      have hstep2 := fun S' L' T' w' => HStep.out c k hkl S' L' T' w'
      rw [← hod] at hstep2
      have Hs2 := Lib.hid hstep2
      have Hone := Lib.hid (op_one od)
      have hb63 : (k : Int) < (ops.length : Int) := by exact_mod_cast hkl
      clear hstep2 hod
      go_wp2_with (first
        | (refine wpList_load_mid rfl 38 (.tmp 16) rfl g (off + k * 4) rfl od.cells _ Hr.out Tryz.underlying38 rfl (info_op _) ?_)
        | (refine wpList_store_new rfl 38 (.tmp 7) (.tmp 17) rfl HO.out od.cells wr.heap.size rfl rfl rfl rfl (info_op _) Hone.out ?_))
      intro w3 hO3 hlt3
      have Hr2 := Lib.hid (show w3.rangeAt wr.heap.size 0 od.cells from by
        have h1 := Own.range (h := hO3) 0 4
        exact h1)
      have hcall := Hs2.out S2 _ T2 w3 hO3 (fun x hx => List.mem_cons_of_mem _ (k2 x hx)) (k3.mono (fun b x _ hx => hx) (fun v zs h => h.cons _)) k4 k5 k6 (hmx _ _ _ hO3)
      have hfin : ∀ e w4, DoL w0 S2 (⟨38, 4, .slice (some ⟨wr.heap.size, 0, none⟩) 1 1, 1, od.cells⟩ :: L2) c T2 w3 (P (k + 1)) (.int .i64 0) e w4 → e = .returned (.int .i64 0) ∧ DoRel w0 S L w c P (k + 1) w4 := fun e w4 hd => DoRel.step hd (fun x hx => List.mem_cons_of_mem _ (k2 x hx)) k4 k5 hlt (by omega) hmx
      have HF := Lib.hid hfin
      clear hfin hO3 Hr HO Hone Hs2 k1 k2 k3 k4 k5 k6 k7 HR1 HStep HEnd HOps HT
      go_wp2_with (refine wpList_load_mid rfl 38 (.tmp 7) rfl wr.heap.size 0 rfl od.cells _ Hr2.out Tryz.underlying38 rfl (info_op _) ?_)
      refine hcall.mono ?_
      rintro e w4 hd
      obtain ⟨rfl, hR4⟩ := HF.out e w4 hd
      have HR4 := Lib.hid hR4
      clear hd hR4 hcall HF Hr2
      go_wp2_with fail
      go_roundw
      case rel => exact ⟨k + 1, by omega, by go_num, HR4.out⟩
      case measure => simp [intOf]; omega
    · obtain rfl : k = ops.length := by omega
      obtain ⟨z1, z2, z3⟩ := HEnd.out T2 k6
      have hov := over_ok (k3.at_.inWorld k1) z1 z2 z3
      have hb63 : ¬ ((ops.length : Int) < (ops.length : Int)) := Int.lt_irrefl _
      have hgen : ∀ w5, Below wr.heap.size wr w5 → (w5.cell? ⟨c, 0, none⟩ = some (.int .i64 T2.quota) ∧ w5.cell? ⟨c, 1, none⟩ = some (.int .i64 T2.next) ∧ w5.cell? ⟨c, 2, none⟩ = some (.map (some T2.bm))) ∧ (w5.frozen? ⟨t, 0, none⟩ = false ∧ w5.frozen? ⟨t, 1, none⟩ = false ∧ w5.frozen? ⟨t, 2, none⟩ = false) ∧ (w5.cell? ⟨t, 0, none⟩ = some (.int .i64 T.quota) ∧ w5.cell? ⟨t, 1, none⟩ = some (.int .i64 T.next) ∧ w5.cell? ⟨t, 2, none⟩ = some (.map (some T.bm))) := by
        intro w5 hb
        have h5 := k1.later hb
        have ht5 := h5.at (k4 _ _ HT.out.at_.cells)
        exact ⟨(k3.at_.inWorld h5).at0, ⟨free_at ht5 0, free_at ht5 1, free_at ht5 2⟩, cell_at ht5 0, cell_at ht5 1, cell_at ht5 2⟩
      have Hgen := Lib.hid hgen
      clear hgen
      go_wp2_with fail
      refine hov.mono ?_
      rintro e w5 ⟨rfl, hb5⟩
      obtain ⟨⟨a0, a1, a2⟩, ⟨f0, f1, f2⟩, b0, b1, b2⟩ := Hgen.out w5 hb5
      go_wp2_with fail
      go_ret
      have ht5 := k4 _ _ HT.out.at_.cells
      refine ⟨_, L2, T2, rfl, store3 (k1.later hb5) ht5, k2, k3.moved ht5 (fun hm => by have := k5 t (List.mem_cons_of_mem _ hm); omega), ⟨fun b x hb hnb => upd_other (k4 b x hb) (fun e => hnb (e ▸ List.mem_cons_self ..)) _, fun b hb => ?_⟩, k6⟩
      rcases List.mem_cons.1 hb with rfl | hb
      · exact .inl (List.mem_cons_self ..)
      · exact .inr (k5 b (List.mem_cons_of_mem _ hb))
end Go.Proofs.YtamkfadammlhbaaGreatDoor
