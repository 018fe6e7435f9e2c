/- Texts one behind the other, each in a section of its own: what calls make of memory, step by step. -/
import Derived.Test.YtkhnkidggcjfeaaGreatDoorPackNeedHits14
set_option linter.unusedVariables false
set_option linter.unusedSimpArgs false
set_option maxRecDepth 100000
section
namespace Go.Proofs.YtkhnkidggcjfeaaGreatDoor
open Go.RowKit
open Go.ChangeMaps (setBlock)
structure St1 (w : World) (g bb bu : Nat) (c : Array Value) (ob : Obj) (us : List GU) (k : Nat) (ou : Obj) (ys : List UV) (wr : World) : Prop where
  own : Own ⟨w, Blk g bb bu c ob ou⟩ wr (rowsAll ys (us.take k))
  like : Like ys (us.take k)
  map : MapO keyN ou (entsU ys)
  once : (namesU (us.take k)).Nodup
theorem St1.usAt {w : World} {g bb bu : Nat} {x y : Value} {ob ou : Obj} {us : List GU} {k : Nat} {ys : List UV} {wr : World} (h : St1 w g bb bu #[.map (some bu), x, y] ob us k ou ys wr) : UsAt wr g bu ys (us.take k) := Blk.us h.own h.like (fun r hr => hr) h.map
theorem St1.later {w : World} {g bb bu : Nat} {c : Array Value} {ob ou : Obj} {us : List GU} {k : Nat} {ys : List UV} {wr w' : World} (h : St1 w g bb bu c ob us k ou ys wr) (hb : Below wr.heap.size wr w') : St1 w g bb bu c ob us k ou ys w' := { h with own := h.own.later hb }
theorem St1.add {w : World} {g bb bu : Nat} {c : Array Value} {ob ou : Obj} {us : List GU} {k : Nat} {ys : List UV} {wr w' : World} (h : St1 w g bb bu c ob us k ou ys wr) (hne : g ≠ bu ∧ bb ≠ bu) (hk : k < us.length) {y : UV} (hn : y.name = us[k].name) (hr : y.ret = us[k].ret) (hnew : us[k].name ∉ namesU (us.take k)) (hO : Own wr w' (rows6 y us[k])) :
    ∃ ou', (Instr.mapUpdate 115 (.map (some bu)) (.string (toB us[k].name)) y.val).run Tryz.prog w' = .ok () (setBlock w' bu ou') ∧ St1 w g bb bu c ob us (k + 1) ou' (ys ++ [y]) (setBlock w' bu ou') := by
  have hj := h.own.join hO
  have hbu : (bu, ou) ∈ Blk g bb bu c ob ou := List.mem_cons_of_mem _ (List.mem_cons_of_mem _ (List.mem_cons_self ..))
  obtain ⟨ou', e1, e2⟩ := h.map.update (P := Tryz.prog) (kindsN und_str) und_us (hj.at hbu) us[k].name y.val
  have ht : us.take (k + 1) = us.take k ++ [us[k]] := List.take_succ_eq_append_getElem hk
  have hkeys : (entsU ys).map (·.1) = namesU (us.take k) := by
    rw [← h.like.names]; unfold entsU; rw [List.map_map]; rfl
  rw [putG_fresh (by rw [hkeys]; exact hnew)] at e2
  have hS := hj.setB hbu ou'
  have hup : upd (Blk g bb bu c ob ou) bu ou' = Blk g bb bu c ob ou' := by
    simp [upd, Blk, hne.1, hne.2]
  rw [hup] at hS
  refine ⟨ou', e1, ?_, ?_, ?_, ?_⟩
  · rw [ht, rowsAll_snoc _ _ _ _ h.like.len]
    exact hS.perm List.perm_append_comm
  · rw [ht]; exact h.like.snoc hn hr
  · have : entsU (ys ++ [y]) = entsU ys ++ [(us[k].name, y.val)] := by unfold entsU; rw [List.map_append, ← hn]; rfl
    rw [this]; exact e2
  · rw [ht]
    unfold namesU at *
    rw [List.map_append]
    refine List.nodup_append.2 ⟨h.once, by simp, fun a ha b hb => ?_⟩
    have hb' : b = us[k].name := by simpa using hb
    rw [hb']
    exact fun e => hnew (e ▸ ha)
theorem Own.newB_at {w0 w : World} {S : Blocks} {L : List Rw} (h : Own ⟨w0, S⟩ w L) (o : Obj) (b : Nat) (hb : b = w.heap.size) : Own ⟨w0, (b, o) :: S⟩ (w.alloc o) L := hb ▸ h.newB o
theorem cell_setB_ne (W : World) {b c : Nat} (o : Obj) (h : c ≠ b) (j : Nat) : (setBlock W b o).cell? ⟨c, j, none⟩ = W.cell? ⟨c, j, none⟩ := by
  have e : (setBlock W b o).heap[c]? = W.heap[c]? := by simp [setBlock, Ne.symm h]
  unfold World.cell?
  rw [e]
theorem run_mk56 (w : World) : (Instr.makeMap 115 none).run Tryz.prog w = .ok (.map (some w.heap.size)) (w.alloc (.map #[] 0)) := rfl
theorem run_mk57 (w : World) : (Instr.makeMap 116 none).run Tryz.prog w = .ok (.map (some w.heap.size)) (w.alloc (.map #[] 0)) := rfl
def NewPost (w : World) (us : List GU) (e : Ending) (w' : World) : Prop := ∃ gv n, e = .returned (.tuple #[gv, .int .i64 (errU us), .string (toB n)]) ∧ Below w.heap.size w w' ∧ (errU us ≠ 0 → gv = .pointer none) ∧ (errU us = 0 → ∃ g, gv = .pointer (some ⟨g, 0, none⟩) ∧ GAt w' g us (ordU us)) ∧ (errU us = 19 → (placeU us).2.head? = some n)
def GIn (S : Blocks) (L : List Rw) (g : Nat) (us : List GU) (ord : List Nm) : Prop := ∀ (W0 : World) (S' : Blocks) (w' : World) (L' : List Rw), (∀ m ∈ S, m ∈ S') → (∀ r ∈ L, r ∈ L') → Own ⟨W0, S'⟩ w' L' → GAt w' g us ord
def NewPost2 (w : World) (us : List GU) (e : Ending) (w' : World) : Prop := ∃ gv n, e = .returned (.tuple #[gv, .int .i64 (errU us), .string (toB n)]) ∧ Below w.heap.size w w' ∧ (errU us ≠ 0 → gv = .pointer none) ∧ (errU us = 0 → ∃ g S L, gv = .pointer (some ⟨g, 0, none⟩) ∧ Own ⟨w, S⟩ w' L ∧ GIn S L g us (ordU us)) ∧ (errU us = 19 → (placeU us).2.head? = some n)
theorem NewPost2.bad {w w' : World} {us : List GU} {x : Int} (hE : errU us = x) (hx : x ≠ 0) {n : Nm} (h19 : x = 19 → (placeU us).2.head? = some n) {nb : ByteArray} (hn : toB n = nb) (hb : Below w.heap.size w w') : NewPost2 w us (.returned (.tuple #[.pointer none, .int .i64 x, .string nb])) w' := by
  subst hE hn
  exact ⟨_, n, rfl, hb, fun _ => rfl, fun h => absurd h hx, h19⟩
theorem NewPost2.good {w w' : World} {us : List GU} (hE : errU us = 0) {g : Nat} {S : Blocks} {L : List Rw} (hO : Own ⟨w, S⟩ w' L) (hg : GIn S L g us (ordU us)) (hb : Below w.heap.size w w') : NewPost2 w us (.returned (.tuple #[.pointer (some ⟨g, 0, none⟩), .int .i64 0, .string ⟨#[]⟩])) w' := by
  refine ⟨_, [], by rw [hE], hb, fun h => absurd hE h, fun _ => ⟨g, S, L, rfl, hO, hg⟩, fun h => by rw [hE] at h; cases h⟩
structure St2 (w : World) (g bb bu : Nat) (c : Array Value) (ou : Obj) (us : List GU) (ys : List UV) (vN : Value) (names : List Nm) (j : Nat) (ob : Obj) (zs : List Value) (wr : World) : Prop where
  own : Own ⟨w, Blk g bb bu c ob ou⟩ wr (rowSs vN names :: (rowsB us zs (names.take j) ++ rowsAll ys us))
  len : zs.length = (names.take j).length
  map : MapO keyN ob (entsB zs (names.take j))
theorem St2.add {w : World} {g bb bu : Nat} {c : Array Value} {ob ou : Obj} {us : List GU} {ys : List UV} {vN : Value} {names : List Nm} {j : Nat} {zs : List Value} {wr w' : World} (h : St2 w g bb bu c ou us ys vN names j ob zs wr) (hne : g ≠ bb ∧ bu ≠ bb) (hd : names.Nodup) (hj : j < names.length) {z : Value} (hO : Own wr w' [rowSs z (aheadU us names[j])]) :
    ∃ ob', (Instr.mapUpdate 116 (.map (some bb)) (.string (toB names[j])) z).run Tryz.prog w' = .ok () (setBlock w' bb ob') ∧ St2 w g bb bu c ou us ys vN names (j + 1) ob' (zs ++ [z]) (setBlock w' bb ob') := by
  have hjn := h.own.join hO
  have hbb : (bb, ob) ∈ Blk g bb bu c ob ou := List.mem_cons_of_mem _ (List.mem_cons_self ..)
  obtain ⟨ob', e1, e2⟩ := h.map.update (P := Tryz.prog) (kindsN und_str) und_be (hjn.at hbb) names[j] z
  have ht : names.take (j + 1) = names.take j ++ [names[j]] := List.take_succ_eq_append_getElem hj
  have hnew : names[j] ∉ names.take j := by
    have h2 : (names.take (j + 1)).Nodup := hd.sublist (List.take_sublist _ _)
    rw [ht] at h2
    intro hm
    exact (List.nodup_append.1 h2).2.2 _ hm names[j] (List.mem_singleton.2 rfl) rfl
  rw [putG_fresh (by rw [entsB_keys h.len]; exact hnew)] at e2
  have hS := hjn.setB hbb ob'
  have hup : upd (Blk g bb bu c ob ou) bb ob' = Blk g bb bu c ob' ou := by
    simp [upd, Blk, hne.1, hne.2]
  rw [hup] at hS
  refine ⟨ob', e1, ?_, ?_, ?_⟩
  · rw [ht, rowsB_snoc _ _ _ _ _ h.len]
    refine hS.perm ?_
    show List.Perm (rowSs z (aheadU us names[j]) :: rowSs vN names :: (rowsB us zs (names.take j) ++ rowsAll ys us)) (rowSs vN names :: (rowsB us zs (names.take j) ++ [rowSs z (aheadU us names[j])] ++ rowsAll ys us))
    refine (List.Perm.swap _ _ _).trans (List.Perm.cons _ ?_)
    rw [List.append_assoc]
    exact List.perm_middle.symm
  · rw [ht, List.length_append, List.length_append, h.len]; rfl
  · rw [ht, entsB_snoc h.len]; exact e2
theorem BeAt.keys {w : World} {g bb : Nat} {ks ks' : List Nm} {beh : Nm → List Nm} (h : BeAt w g bb ks beh) (hk : ∀ x, x ∈ ks ↔ x ∈ ks') : BeAt w g bb ks' beh := by
  obtain ⟨o, mb, h1, h2, h3, h4⟩ := h.map
  exact ⟨h.cell, o, mb, h1, h2, fun n hn => h3 n ((hk n).2 hn), fun n hn => h4 n fun h => hn ((hk n).1 h)⟩
set_option maxHeartbeats 16000000 in
theorem new_any2 {w : World} {v : Value} {us : List GU} (h : UArg w v us) (hlen : us.length ≤ 1000000) (hs : ∀ n ∈ namesU us, n.length ≤ 1000000) (hb : ∀ u ∈ us, Bnd u) :
    Calls Tryz.prog 19 #[v] w (NewPost2 w us) := by
  obtain ⟨a, c, xs, rfl, hU, hr⟩ := h
  have hn : (us.length : Int) ≤ 1000000 := by omega
  by_cases hmany : 16 < us.length
  · have he : errU us = 22 := by unfold errU; rw [if_pos hmany]
    have hmi : (16 : Int) < (us.length : Int) := by omega
    clear hU hr hb hs hmany
    go_enter Tryz.func19, Tryz.ntmps19
    go_wp2_with fail
    go_ret3
    exact NewPost2.bad he (by decide) (n := []) (fun h => by cases h) rfl (Below.refl _ _)
  have hfew : us.length ≤ 16 := by omega
  have m1 := run_mk56
  have m2 := run_mk57
  have O1 := ((Own.start w).newB_at (.map #[] 0) w.heap.size rfl).newB_at (.map #[] 0) (w.heap.size + 1) (by simp)
  have O2 := O1.newB_at (.cells #[.map (some w.heap.size), .map (some (w.heap.size + 1)), .slice none 0 0] 118) (w.heap.size + 1 + 1) (by simp)
  have hne1 : w.heap.size + 1 + 1 ≠ w.heap.size ∧ w.heap.size + 1 ≠ w.heap.size := ⟨by omega, by omega⟩
  have HST := Lib.hid (show St1 w (w.heap.size + 1 + 1) (w.heap.size + 1) w.heap.size #[.map (some w.heap.size), .map (some (w.heap.size + 1)), .slice none 0 0] (.map #[] 0) us 0 (.map #[] 0) [] _ from ⟨O2, .nil, MapO.empty _, List.nodup_nil⟩)
  have hgb : w.heap.size + 1 + 1 ≠ w.heap.size + 1 := by omega
  have HNE := Lib.hid hne1
  have HGB := Lib.hid hgb
  have HU := Lib.hid hU
  have HR := Lib.hid hr
  have HS := Lib.hid hs
  have HB := Lib.hid hb
  have HF := Lib.hid hfew
  have hfi : (us.length : Int) ≤ 16 := by omega
  clear O1 O2 hne1 hgb hU hr hs hb hmany hfew hlen
  go_enter Tryz.func19, Tryz.ntmps19
  go_upto_region 4 with fail
  generalize hbu : w.heap.size = bu at *
  have HBU := Lib.hid hbu
  clear hbu m1 m2
  obtain ⟨W3, hW3⟩ : ∃ W3 : World, W3 = ((w.alloc (.map #[] 0)).alloc (.map #[] 0)).alloc (.cells #[.map (some bu), .map (some (bu + 1)), .slice none 0 0] 118) := ⟨_, rfl⟩
  rw [← hW3] at HST ⊢
  clear hW3
  go_wp2_with fail
  go_loopw [22] (fun s wr => ∃ k ou ys, k ≤ us.length ∧ s = .int .i64 (k : Nat) ∧ St1 w (bu + 1 + 1) (bu + 1) bu #[.map (some bu), .map (some (bu + 1)), .slice none 0 0] (.map #[] 0) us k ou ys wr) (fun s _ => us.length - (intOf s).toNat)
  case atStart => exact ⟨0, _, _, Nat.zero_le _, rfl, HST.out⟩
  case round =>
    obtain ⟨k, ou, ys, hk, rfl, h1⟩ := hrel
    by_cases hlt : k < us.length
    · have hkx : k < xs.length := by rw [HU.out.len]; exact hlt
      obtain ⟨⟨b, o, rfl, hrg⟩, _⟩ := HR.out k hkx
      have hbw := h1.own.below
      have hUk := HU.out.at k hkx hlt
      have hrg2 : wr.rangeAt b (o + k * 8) xs[k].cells := fun j u hj => by
        have h2 := hrg j u hj
        exact (hbw.cell (p := ⟨b, o + k * 8 + j, none⟩) (World.block_lt_of_cell? w ⟨b, o + k * 8 + j, none⟩ h2)).trans h2
      have hnm : us[k].name ∈ namesU us := mem_names.2 ⟨us[k], List.getElem_mem hlt, rfl⟩
      have hBnd := HB.out us[k] (List.getElem_mem hlt)
      have H1 := Lib.hid h1
      have HBB := Lib.hid (show wr.heap.size ≠ bu from Nat.ne_of_gt (h1.own.atLt (b := bu) (o := ou) (List.mem_cons_of_mem _ (List.mem_cons_of_mem _ (List.mem_cons_self ..)))).2)
      have HUk := Lib.hid (hUk.later hbw)
      have Hone := Lib.hid hUk.one
      have hcsp : (Tryz.prog.info? 63).map (·.size) = some xs[k].cells.length := info_uv
      have h8 := Lib.hid (show (8 : Nat) = xs[k].cells.length from rfl)
      have D0 := Lib.hid (show xs[k].cells[0]? = some (.string (toB xs[k].name)) from rfl)
      have HX := Lib.hid (show xs[k].val = .agg xs[k].cells.toArray from rfl)
      have HBnd := Lib.hid hBnd
      have hklt : (k : Int) < (us.length : Int) := by omega
      have hname : xs[k].name = us[k].name := hUk.name
      clear h1 hrg hbw hUk hnm hBnd hk
      generalize hxx : xs[k] = X at *
      generalize hpc : X.cells = pcs at *
      go_upto_region 7 with (first
        | (refine wpList_load_mid rfl 63 (.tmp 24) rfl b (o + k * 8) rfl pcs _ hrg2 Tryz.underlying63 rfl hcsp ?_)
        | (refine wpList_store_new rfl 63 (.tmp 7) (.tmp 25) rfl H1.out.own pcs wr.heap.size rfl rfl rfl h8.out hcsp Hone.out ?_))
      intro w3 hO3 _
      have h3 : St1 w (bu + 1 + 1) (bu + 1) bu #[.map (some bu), .map (some (bu + 1)), .slice none 0 0] (.map #[] 0) us k ou ys w3 := { H1.out with own := hO3.tail }
      have c0 : w3.cell? ⟨wr.heap.size, 0, none⟩ = some (.string (toB X.name)) := by
        rw [hO3.cell 0 (by rw [← h8.out]; decide)]; exact D0.out
      have rb : w3.rangeAt wr.heap.size 0 pcs := by
        have := hO3.range 0 8
        rw [List.drop_zero, List.take_of_length_le (by rw [← h8.out]; exact Nat.le_refl _)] at this
        exact this
      have kh := has_any h3.usAt X.name
      have hUw3 : UVIs w3 X us[k] := by
        have q := HU.out.at k hkx hlt
        rw [hxx] at q
        exact q.later h3.own.below
      have H3 := Lib.hid h3
      have HU3 := Lib.hid hUw3
      have RB := Lib.hid rb
      have C0 := Lib.hid c0
      have Hname := Lib.hid hname
      have hb7 := Lib.hid (World.block_lt_of_cell? w3 ⟨wr.heap.size, 0, none⟩ c0)
      clear h3 hO3 hUw3 rb hname hxx
      generalize wr.heap.size = b7 at *
      generalize hxn : toB X.name = nb at *
      have HXN := Lib.hid hxn
      clear hxn
      by_cases hin : X.name ∈ namesU (us.take k)
      · rw [decide_eq_true hin] at kh
        have HE : Hid (errU us = 9) := by
          have hnd : ¬ (namesU us).Nodup := fun hd => by
            have h1 : us = us.take k ++ us[k] :: us.drop (k + 1) := by rw [← List.drop_eq_getElem_cons hlt, List.take_append_drop]
            rw [h1] at hd
            unfold namesU at hd hin
            rw [List.map_append, List.map_cons] at hd
            exact (List.nodup_append.1 hd).2.2 _ hin us[k].name (List.mem_cons_self ..) Hname.out
          show errU us = 9
          unfold errU
          rw [if_neg (by have := HF.out; omega), if_pos hnd]
        clear hin
        go_wp2_with (go_at_call 46; refine kh.mono ?_; rintro e w4 ⟨rfl, hb4⟩; have c04 := (hb4.cell (p := ⟨b7, 0, none⟩) hb7.out).trans c0; have HB4 := Lib.hid hb4; clear hb4 c0)
        go_quiet (fail)
        go_wp2_with fail
        go_ret3
        exact NewPost2.bad HE.out (by decide) (n := X.name) (fun h => by cases h) HXN.out (H3.out.later HB4.out).own.drewN.below
      · rw [decide_eq_false hin] at kh
        have Hin := Lib.hid hin
        clear hin
        go_wp2_with (go_at_call 46; refine kh.mono ?_; rintro e w4 ⟨rfl, hb4⟩; have c04 := (hb4.cell (p := ⟨b7, 0, none⟩) hb7.out).trans c0; have HB4 := Lib.hid hb4; clear hb4 c0)
        have cg := (H3.out.later HB4.out).usAt.cell
        have rb4 : w4.rangeAt b7 0 pcs := fun j u hj => by
          have h2 := RB.out j u hj
          exact (HB4.out.cell (p := ⟨b7, 0 + j, none⟩) (World.block_lt_of_cell? w3 ⟨b7, 0 + j, none⟩ h2)).trans h2
        have hb74 := lt_of_heap (w := w4) (k := b7) (o := (w4.heap[b7]'(World.block_lt_of_cell? w4 ⟨b7, 0, none⟩ c04))) (Array.getElem?_eq_getElem _)
        have e8 := hpc.symm
        unfold UV.cells at e8
        rw [HXN.out] at e8
        have KA := Lib.hid (fun W (hb : Below w4.heap.size w4 W) => apart_any W X us[k] ((HU3.out.later HB4.out).later hb) HBnd.out)
        have HADD := Lib.hid (fun W (hb : Below w4.heap.size w4 W) w5 (y : UV) (h1 : y.name = us[k].name) (h2 : y.ret = us[k].ret) (hO : Own W w5 (rows6 y us[k])) => ((H3.out.later HB4.out).later hb).add HNE.out hlt h1 h2 (by rw [← Hname.out]; exact Hin.out) hO)
        have hxv : X.val = .agg #[.string nb, X.v1, X.v2, X.v3, X.v4, X.v5, X.v6, .int .i64 X.ret] := by rw [← HXN.out]; rfl
        rw [hxv] at KA
        rw [show toB us[k].name = nb from by rw [← Hname.out]; exact HXN.out] at HADD
        clear hpc HX hxv
        generalize X.v1 = y1 at *
        generalize X.v2 = y2 at *
        generalize X.v3 = y3 at *
        generalize X.v4 = y4 at *
        generalize X.v5 = y5 at *
        generalize X.v6 = y6 at *
        generalize X.ret = yr at *
        have HS8 := Lib.hid (fun (W : World) (hb : Below w4.heap.size w4 W) => (show W.cell? ⟨bu + 1 + 1, 0, none⟩ = some (.map (some bu)) ∧ W.cell? ⟨b7, 0, none⟩ = some (.string nb) ∧ W.cell? ⟨b7, 1, none⟩ = some y1 ∧ W.cell? ⟨b7, 2, none⟩ = some y2 ∧ W.cell? ⟨b7, 3, none⟩ = some y3 ∧ W.cell? ⟨b7, 4, none⟩ = some y4 ∧ W.cell? ⟨b7, 5, none⟩ = some y5 ∧ W.cell? ⟨b7, 6, none⟩ = some y6 ∧ W.cell? ⟨b7, 7, none⟩ = some (.int .i64 yr) from by
          have q := fun j u (hj : pcs[j]? = some u) => (hb.cell (p := ⟨b7, 0 + j, none⟩) hb74).trans (rb4 j u hj)
          simp only [Nat.zero_add] at q
          rw [e8] at q
          exact ⟨(hb.cell (p := ⟨bu + 1 + 1, 0, none⟩) (World.block_lt_of_cell? w4 ⟨bu + 1 + 1, 0, none⟩ cg)).trans cg, q 0 _ rfl, q 1 _ rfl, q 2 _ rfl, q 3 _ rfl, q 4 _ rfl, q 5 _ rfl, q 6 _ rfl, q 7 _ rfl⟩))
        have HS9 := Lib.hid (fun (W : World) (o9 : Obj) (hb : Below w4.heap.size w4 W) => (show (setBlock W bu o9).cell? ⟨bu + 1 + 1, 0, none⟩ = some (.map (some bu)) ∧ (setBlock W bu o9).cell? ⟨b7, 0, none⟩ = some (.string nb) ∧ (setBlock W bu o9).cell? ⟨b7, 1, none⟩ = some y1 ∧ (setBlock W bu o9).cell? ⟨b7, 2, none⟩ = some y2 ∧ (setBlock W bu o9).cell? ⟨b7, 3, none⟩ = some y3 ∧ (setBlock W bu o9).cell? ⟨b7, 4, none⟩ = some y4 ∧ (setBlock W bu o9).cell? ⟨b7, 5, none⟩ = some y5 ∧ (setBlock W bu o9).cell? ⟨b7, 6, none⟩ = some y6 ∧ (setBlock W bu o9).cell? ⟨b7, 7, none⟩ = some (.int .i64 yr) from by
          obtain ⟨q0, q1, q2, q3, q4, q5, q6, q7, q8⟩ := HS8.out W hb
          have n1 := cell_setB_ne W o9 HNE.out.1
          have n2 := cell_setB_ne W o9 HBB.out
          exact ⟨(n1 _).trans q0, (n2 _).trans q1, (n2 _).trans q2, (n2 _).trans q3, (n2 _).trans q4, (n2 _).trans q5, (n2 _).trans q6, (n2 _).trans q7, (n2 _).trans q8⟩))
        have hS8 := HS8.out w4 (Below.refl _ _)
        clear rb4 c04 cg e8
        go_region_held3 (fun W : World => W.cell? ⟨bu + 1 + 1, 0, none⟩ = some (.map (some bu)) ∧ W.cell? ⟨b7, 0, none⟩ = some (.string nb) ∧ W.cell? ⟨b7, 1, none⟩ = some y1 ∧ W.cell? ⟨b7, 2, none⟩ = some y2 ∧ W.cell? ⟨b7, 3, none⟩ = some y3 ∧ W.cell? ⟨b7, 4, none⟩ = some y4 ∧ W.cell? ⟨b7, 5, none⟩ = some y5 ∧ W.cell? ⟨b7, 6, none⟩ = some y6 ∧ W.cell? ⟨b7, 7, none⟩ = some (.int .i64 yr)) (first | exact hS8 | exact HS8.out _ (Below.refl _ _) | exact HS8.out _ (Below.refl _ _).drew | exact HS8.out _ hb5 | exact HS9.out _ _ hb5 | exact HS9.out _ _ hb5.drew | exact HS8.out _ hb5.drew) (first | (go_at_call 47; refine (KA.out _ ?_).mono ?_; (first | exact Below.refl _ _ | exact (Below.refl _ _).drew); rintro e w5 ⟨y, rfl, hy1, hy2, hO5⟩; have hb5 : Below w4.heap.size w4 w5 := (by first | exact (Below.refl _ _).trans hO5.below | exact ((Below.refl _ _).drew).trans hO5.below); obtain ⟨ou5, hup5, hst5⟩ := HADD.out _ (by first | exact Below.refl _ _ | exact (Below.refl _ _).drew) w5 y hy1 hy2 hO5; obtain ⟨ou6, hup6, hst6⟩ := HADD.out _ (by first | exact Below.refl _ _ | exact (Below.refl _ _).drew) w5.drew y hy1 hy2 hO5.drew; have HST5 := Lib.hid hst5; have HST6 := Lib.hid hst6; clear hst5 hst6 hO5))
        go_wp2_with fail
        go_roundw
        case rel => exact ⟨k + 1, _, _, by omega, by go_num, by first | exact HST5.out | exact HST6.out⟩
        case measure => simp [intOf]; omega
    · obtain rfl : k = us.length := by omega
      have hown := h1.own
      have hlike := h1.like
      have honce := h1.once
      have hmap := h1.map
      rw [List.take_length] at hown hlike honce
      have hus : UsAt wr (bu + 1 + 1) bu ys us := Blk.us hown hlike (fun r hr => hr) hmap
      have kn := names_any hus honce (by have := HF.out; omega) HS.out
      have hnl : (sortN (namesU us)).length = us.length := by rw [sortN_length]; simp [namesU]
      have hnd : (sortN (namesU us)).Nodup := sortN_nodup.2 honce
      have HOwn := Lib.hid hown
      have HLike := Lib.hid hlike
      have HOnce := Lib.hid honce
      have HMap := Lib.hid hmap
      have HNL := Lib.hid hnl
      have HND := Lib.hid hnd
      have HBad := Lib.hid (show badU us = (sortN (namesU us)).any (lacksU us) from rfl)
      clear h1 hown hlike honce hmap hus hlt hk hnl hnd
      go_upto_region 12 with (go_at_call 48; refine kn.mono ?_; rintro e w4 ⟨vN, rfl, hO4⟩; have HO4 := Lib.hid hO4; clear hO4)
      have hO5 : Own ⟨w, Blk (bu + 1 + 1) (bu + 1) bu #[.map (some bu), .map (some (bu + 1)), .slice none 0 0] (.map #[] 0) ou⟩ w4 (rowSs vN (sortN (namesU us)) :: rowsAll ys us) := HOwn.out.join HO4.out
      obtain ⟨an, nn, cn, hvN⟩ := hO5.sts.shape
      have hvN' : vN = .slice an nn cn := hvN
      subst hvN'
      have hnn : nn = (sortN (namesU us)).length := by
        obtain ⟨a', c', e', _⟩ := hO5.sts
        injection e'
      have hus4 : UsAt w4 (bu + 1 + 1) bu ys us := Blk.us hO5 HLike.out (fun r hr => List.mem_cons_of_mem _ hr) HMap.out
      have ki := index_bd 50 (.pointer (some ⟨bu + 1 + 1, 0, none⟩)) (lacksU us) (enters_of Tryz.func50 (by kernel_rfl) rfl) (.slice an nn cn) _ w4 hO5.sts (fun W x _ hb => lacks_any (hus4.later hb) x)
      have HO5 := Lib.hid hO5
      have Hnn := Lib.hid hnn
      clear hO5 hvN hnn hus4 kn
      rcases idxF_cases (lacksU us) (sortN (namesU us)) with ⟨e1, e2, e3⟩ | ⟨k, hk, e1, e2, e3, _⟩
      · rw [e2] at ki
        have HE3 := Lib.hid (show badU us = false from by rw [HBad.out]; exact List.any_eq_false.2 fun x hx => by rw [e3 x hx]; simp)
        clear e1 e2 e3
        have hst2 : St2 w (bu + 1 + 1) (bu + 1) bu #[.map (some bu), .map (some (bu + 1)), .slice none 0 0] ou us ys (.slice an nn cn) (sortN (namesU us)) 0 (.map #[] 0) [] w4 := ⟨HO5.out, rfl, MapO.empty _⟩
        have HI := Lib.hid (fun w6 (hb : Below w4.heap.size w4 w6) => (show St2 w (bu + 1 + 1) (bu + 1) bu #[.map (some bu), .map (some (bu + 1)), .slice none 0 0] ou us ys (.slice an nn cn) (sortN (namesU us)) 0 (.map #[] 0) [] w6 from ⟨HO5.out.later hb, rfl, MapO.empty _⟩))
        clear hst2
        go_wp2_with (go_at_call 49; refine ki.mono ?_; rintro e w6 ⟨rfl, hb6⟩; have HI6 := Lib.hid (HI.out w6 hb6); clear hb6)
        generalize hnames : sortN (namesU us) = names at *
        have HNAMES := Lib.hid hnames
        clear hnames ki HI
        have hnsm : (nn : Int) ≤ 16 := by have h1 := Hnn.out; have h2 := HNL.out; have h3 := HF.out; omega
        go_loopw [55] (fun s wr => ∃ j ob zs, j ≤ nn ∧ s = .int .i64 (j : Nat) ∧ St2 w (bu + 1 + 1) (bu + 1) bu #[.map (some bu), .map (some (bu + 1)), .slice none 0 0] ou us ys (.slice an nn cn) names j ob zs wr) (fun s _ => nn - (intOf s).toNat)
        case atStart => exact ⟨0, _, _, Nat.zero_le _, rfl, HI6.out⟩
        case round =>
          obtain ⟨j, ob, zs, hj, rfl, h2⟩ := hrel
          by_cases hlt : j < nn
          · have hjl : j < names.length := by rw [← Hnn.out]; exact hlt
            obtain ⟨gn, hform⟩ : ∃ gn, an = some ⟨gn, 0, none⟩ := by
              obtain ⟨gn, cap, e, _⟩ := h2.own.form (by omega)
              injection e with e _ _
              exact ⟨gn, e⟩
            subst hform
            have ck : wr.cell? ⟨gn, j, none⟩ = some (.string (toB names[j])) := by
              have h5 := h2.own
              rw [Hnn.out] at h5
              exact Own.str h5 j hjl
            have hbz : bu + 1 + 1 ≠ bu + 1 ∧ bu ≠ bu + 1 := ⟨by omega, by omega⟩
            have KA := Lib.hid (fun W (hb : Below wr.heap.size wr W) => ahead_any (Blk.us (h2.own.later hb) HLike.out (fun r hr => List.mem_cons_of_mem _ (List.mem_append_right _ hr)) HMap.out) HOnce.out (by have := HF.out; omega) names[j])
            have HADD := Lib.hid (fun W (hb : Below wr.heap.size wr W) w5 (z : Value) (hO : Own W w5 [rowSs z (aheadU us names[j])]) => (show St2 w (bu + 1 + 1) (bu + 1) bu #[.map (some bu), .map (some (bu + 1)), .slice none 0 0] ou us ys (.slice (some ⟨gn, 0, none⟩) nn cn) names j ob zs W from { h2 with own := h2.own.later hb }).add hbz HND.out hjl hO)
            have hcg : ∀ W, Below wr.heap.size wr W → W.cell? ⟨bu + 1 + 1, 1, none⟩ = some (.map (some (bu + 1))) := fun W hb => by
              rw [(h2.own.later hb).cellB (b := bu + 1 + 1) (List.mem_cons_self ..)]; rfl
            have HCG := Lib.hid hcg
            have HCG2 := Lib.hid (fun (W : World) (o9 : Obj) (hb : Below wr.heap.size wr W) => (show (setBlock W (bu + 1) o9).cell? ⟨bu + 1 + 1, 1, none⟩ = some (.map (some (bu + 1))) from (cell_setB_ne W o9 hbz.1 1).trans (hcg W hb)))
            have hS8 := hcg wr (Below.refl _ _)
            clear h2 hcg hbz
            generalize names[j] = nm at *
            generalize toB nm = nmb at *
            go_upto_region 18 with fail
            go_region_held3 (fun W : World => W.cell? ⟨bu + 1 + 1, 1, none⟩ = some (.map (some (bu + 1)))) (first | exact hS8 | exact HCG.out _ (Below.refl _ _) | exact HCG.out _ (Below.refl _ _).drew | exact HCG.out _ hb5 | exact HCG.out _ hb5.drew | exact HCG2.out _ _ hb5 | exact HCG2.out _ _ hb5.drew) (first | (go_at_call 51; refine (KA.out _ ?_).mono ?_; (first | exact Below.refl _ _ | exact (Below.refl _ _).drew); rintro e w5 ⟨z, rfl, hO5⟩; have hb5 : Below wr.heap.size wr w5 := (by first | exact (Below.refl _ _).trans hO5.below | exact ((Below.refl _ _).drew).trans hO5.below); obtain ⟨ob5, hup5, hst5⟩ := HADD.out _ (by first | exact Below.refl _ _ | exact (Below.refl _ _).drew) w5 z hO5; obtain ⟨ob6, hup6, hst6⟩ := HADD.out _ (by first | exact Below.refl _ _ | exact (Below.refl _ _).drew) w5.drew z hO5.drew; have HST5 := Lib.hid hst5; have HST6 := Lib.hid hst6; clear hst5 hst6 hO5))
            go_wp2_with fail
            go_roundw
            case rel => exact ⟨j + 1, _, _, by omega, by go_num, by first | exact HST5.out | exact HST6.out⟩
            case measure => simp [intOf]; omega
          · obtain rfl : j = nn := by omega
            have hown := h2.own
            have hlen2 := h2.len
            have hmap2 := h2.map
            rw [Hnn.out, List.take_length] at hown hlen2 hmap2
            have hBE : ∀ w', Own ⟨w, Blk (bu + 1 + 1) (bu + 1) bu #[.map (some bu), .map (some (bu + 1)), .slice none 0 0] ob ou⟩ w' (rowsB us zs names ++ rowsAll ys us) → BeAt w' (bu + 1 + 1) (bu + 1) names (aheadU us) := fun w' h => Blk.be h hlen2 (fun r hr => List.mem_append_left _ hr) hmap2
            have kp := placeG_any hown hBE (fun x hx => hx) (by have h2 := HNL.out; have h3 := HF.out; omega)
            have hplu : placeN (aheadU us) names.length [] names = placeU us := by
              unfold placeU; rw [HNAMES.out, HNL.out]
            rw [hplu, ← Hnn.out] at kp
            have HLEN2 := Lib.hid hlen2
            have HMAP2 := Lib.hid hmap2
            clear h2 hown hlen2 hmap2 hBE hplu hlt hj
            go_upto_region 22 with (go_at_call 52; refine kp.mono ?_; rintro e w6 ⟨v1, v2, rfl, hO6⟩; obtain ⟨p1, m1, c1, hv1⟩ := hO6.sts.shape; subst hv1; obtain ⟨p2, m2, c2, hv2⟩ := hO6.swap.sts.shape; subst hv2; have cg6 : w6.cell? ⟨bu + 1 + 1, 2, none⟩ = some (.slice none 0 0) := (by rw [hO6.cellB (b := bu + 1 + 1) (List.mem_cons_self ..)]; rfl); have fg6 := free_at (hO6.at (b := bu + 1 + 1) (List.mem_cons_self ..)) 2; have HO6 := Lib.hid hO6; clear hO6)
            have hO7 : Own ⟨w, Blk (bu + 1 + 1) (bu + 1) bu #[.map (some bu), .map (some (bu + 1)), .slice p1 m1 c1] ob ou⟩ (w6.setCell ⟨bu + 1 + 1, 2, none⟩ (.slice p1 m1 c1)) (rowSs (.slice p1 m1 c1) (placeU us).1 :: rowSs (.slice p2 m2 c2) (placeU us).2 :: (rowsB us zs names ++ rowsAll ys us)) := by
              have h9 := HO6.out.storeB (b := bu + 1 + 1) (List.mem_cons_self ..) 2 (.slice p1 m1 c1)
              have hup : upd (Blk (bu + 1 + 1) (bu + 1) bu #[.map (some bu), .map (some (bu + 1)), .slice none 0 0] ob ou) (bu + 1 + 1) (.cells (#[Value.map (some bu), .map (some (bu + 1)), .slice none 0 0].setIfInBounds 2 (.slice p1 m1 c1)) 118) = Blk (bu + 1 + 1) (bu + 1) bu #[.map (some bu), .map (some (bu + 1)), .slice p1 m1 c1] ob ou := by
                simp [upd, Blk]
                omega
              rw [hup] at h9
              exact h9
            have HO7 := Lib.hid hO7
            clear hO7 cg6 fg6
            generalize w6.setCell ⟨bu + 1 + 1, 2, none⟩ (.slice p1 m1 c1) = w7 at *
            have hm2 : m2 = (placeU us).2.length := by
              obtain ⟨a', c', e', _⟩ := HO7.out.swap.sts
              injection e'
            have hE0 : errU us = if (placeU us).2 ≠ [] then 19 else 0 := by
              unfold errU
              rw [if_neg (by have := HF.out; omega), if_neg (by rw [Decidable.not_not]; exact HOnce.out), if_neg (by rw [HE3.out]; decide)]
            by_cases hleft : (placeU us).2 = []
            · have HE : Hid (errU us = 0) := by
                show errU us = 0
                rw [hE0, if_neg (by rw [hleft]; simp)]
              have hz : m2 = 0 := by rw [hm2, hleft]; rfl
              subst hz
              have HG : Hid (GIn (Blk (bu + 1 + 1) (bu + 1) bu #[.map (some bu), .map (some (bu + 1)), .slice p1 m1 c1] ob ou) (rowSs (.slice p1 m1 c1) (placeU us).1 :: rowSs (.slice p2 0 c2) (placeU us).2 :: (rowsB us zs names ++ rowsAll ys us)) (bu + 1 + 1) us (ordU us)) := by
                have hperm := ordU_perm HE.out
                intro W0 S' w9 L' hS' hL' hO9'
                have hO9 := hO9'.forget (S' := Blk (bu + 1 + 1) (bu + 1) bu #[.map (some bu), .map (some (bu + 1)), .slice p1 m1 c1] ob ou) hS'
                refine ⟨⟨bu, ys, Blk.us hO9 HLike.out (fun r hr => hL' r (List.mem_cons_of_mem _ (List.mem_cons_of_mem _ (List.mem_append_right _ hr)))) HMap.out⟩, ⟨bu + 1, BeAt.keys (Blk.be hO9 HLEN2.out (fun r hr => hL' r (List.mem_cons_of_mem _ (List.mem_cons_of_mem _ (List.mem_append_left _ hr)))) HMAP2.out) fun x => by rw [← HNAMES.out]; exact mem_sortN⟩, ⟨_, by rw [hO9.cellB (b := bu + 1 + 1) (List.mem_cons_self ..)]; rfl, hO9.stsMem (hL' _ (List.mem_cons_self ..))⟩, HOnce.out, by have := HF.out; omega, HS.out, HB.out, ?_, hperm, ?_⟩
                · rw [hperm.length_eq]
                  have := HF.out
                  simp [namesU]; omega
                · intro u hu y hy
                  have h1 := List.any_eq_false.1 (HBad.out ▸ HE3.out) u.name (by rw [← HNAMES.out]; exact mem_sortN.2 (mem_names.2 ⟨u, hu, rfl⟩))
                  unfold lacksU at h1
                  rw [findU_mem HOnce.out hu] at h1
                  simp only [Bool.or_eq_true, List.any_eq_true, Bool.not_eq_true', decide_eq_false_iff_not, not_or, not_exists, not_and, Decidable.not_not] at h1
                  exact hy.elim (h1.1 y) (h1.2 y)
              have HBl := Lib.hid HO7.out.below
              clear hE0 hleft hm2 kp
              go_wp2_with fail
              go_ret3
              exact NewPost2.good HE.out HO7.out HG.out HBl.out
            · have HE : Hid (errU us = 19) := by
                show errU us = 19
                rw [hE0, if_pos hleft]
              obtain ⟨n0, r0, hl0⟩ : ∃ n0 r0, (placeU us).2 = n0 :: r0 := by
                cases h : (placeU us).2 with
                | nil => exact absurd h hleft
                | cons x r => exact ⟨x, r, rfl⟩
              have hpos : 0 < m2 := by rw [hm2, hl0]; simp
              obtain ⟨g2, hform⟩ : ∃ g2, p2 = some ⟨g2, 0, none⟩ := by
                obtain ⟨g2, cap, e, _⟩ := HO7.out.swap.form (by rw [hl0]; simp)
                injection e with e _ _
                exact ⟨g2, e⟩
              subst hform
              have c0 : w7.cell? ⟨g2, 0, none⟩ = some (.string (toB n0)) := by
                have h5 := HO7.out.swap
                rw [hm2] at h5
                have := Own.str h5 0 (by rw [hl0]; simp)
                simpa [hl0] using this
              have hposi : (0 : Int) < (m2 : Int) := by omega
              have HH := Lib.hid (show (placeU us).2.head? = some n0 from by rw [hl0]; rfl)
              clear hE0 hleft hl0 hm2 kp hpos
              go_wp2_with fail
              go_quiet (fail)
              go_wp2_with fail
              go_ret3
              exact NewPost2.bad HE.out (by decide) (n := n0) (fun _ => HH.out) rfl HO7.out.drewN.below
      · rw [e2] at ki
        have HE3 := Lib.hid (show badU us = true from by rw [HBad.out]; exact List.any_eq_true.2 ⟨_, List.getElem_mem hk, e3⟩)
        have HE : Hid (errU us = 16) := by
          show errU us = 16
          unfold errU
          rw [if_neg (by have := HF.out; omega), if_neg (by rw [Decidable.not_not]; exact HOnce.out), if_pos HE3.out]
        have hk0 : (0 : Int) ≤ (k : Int) := by omega
        have hkn : (k : Int) < (nn : Int) := by rw [Hnn.out]; omega
        obtain ⟨gn, hform⟩ : ∃ gn, an = some ⟨gn, 0, none⟩ := by
          obtain ⟨gn, cap, e, _⟩ := HO5.out.form (by omega)
          injection e with e _ _
          exact ⟨gn, e⟩
        subst hform
        have ck : w4.cell? ⟨gn, k, none⟩ = some (.string (toB (sortN (namesU us))[k])) := by
          have h5 := HO5.out
          rw [Hnn.out] at h5
          exact Own.str h5 k hk
        have hlt9 := Lib.hid (World.block_lt_of_cell? w4 ⟨gn, k, none⟩ ck)
        clear e1 e2 e3
        generalize (sortN (namesU us))[k] = nm at *
        go_wp2_with (go_at_call 49; refine ki.mono ?_; rintro e w6 ⟨rfl, hb6⟩; have ck6 := (hb6.cell (p := ⟨gn, k, none⟩) hlt9.out).trans ck; have HB6 := Lib.hid hb6; clear hb6 ck)
        go_quiet (fail)
        go_wp2_with fail
        go_ret3
        exact NewPost2.bad HE.out (by decide) (n := nm) (fun h => by cases h) rfl (HO5.out.later HB6.out).drewN.below
end Go.Proofs.YtkhnkidggcjfeaaGreatDoor
end
section
namespace Go.Proofs.YtkhnkidggcjfeaaGreatDoor
open Go.RowKit
open Go.ChangeMaps (setBlock)
theorem ret_cell_tmpG {P : Program} {fn : Func} {p u : Tmp} {ty : TypeId} (h : fn.results = #[.cell p ty, .tmp u]) {tmps : Array Value} {w : World} {b : Nat} {cs : List Value} {v : Value} {d : TypeDesc} (hp : tmps.getD p undef = .pointer (some ⟨b, 0, none⟩)) (hu : tmps.getD u undef = v)
    (hr : w.rangeAt b 0 cs) (ht : P.underlying ty = some d) (hd : d.isRow = true) (hi : (P.info? ty).map (·.size) = some cs.length) : (results fn tmps).run P w = .ok (.tuple #[.agg cs.toArray, v]) w := by
  rw [results_cell_tmp h, hp, hu]
  have e : (asAddr (.pointer (some ⟨b, 0, none⟩))).run P w = .ok ⟨b, 0, none⟩ w := rfl
  rw [e]
  simp only [Result.andThen_ok, run_loadVar_mid w b 0 ty cs d hr ht hd hi]
theorem Units.first {w : World} {y : UV} {u : GU} (h : Units w [y] [u]) : UVIs w y u := by
  cases h with
  | cons h1 _ => exact h1
set_option maxHeartbeats 2000000 in
theorem GAt.get2 {w : World} {g : Nat} {us : List GU} {ord : List Nm} (h : GAt w g us ord) (n : Nm) :
    Calls Tryz.prog 21 #[.pointer (some ⟨g, 0, none⟩), .string (toB n)] w fun e w' => ∃ y : UV, y.name = (findU us n).name ∧ y.ret = (findU us n).ret ∧ UVIs w' y (findU us n) ∧ e = .returned (.tuple #[.agg y.cells.toArray, .bool (decide (n ∈ namesU us))]) ∧ Own w w' (rows6 y (findU us n)) := by
  obtain ⟨bu, xs, hU⟩ := h.uni
  have hB0 : Below w.heap.size w (w.alloc (.cells #[.string ⟨#[]⟩, .slice none 0 0, .slice none 0 0, .slice none 0 0, .slice none 0 0, .slice none 0 0, .slice none 0 0, .int .i64 0] 63)) := (Below.refl _ w).alloc (Nat.le_refl _) _
  obtain ⟨x, hx, hl0⟩ := hU.lookup n
  have hl := hl0 _ hB0 true
  simp only [if_true] at hl
  have hc := (hU.later hB0).cell
  have hbnd : Bnd (findU us n) := by
    by_cases hn : n ∈ namesU us
    · exact h.bnd _ (findU_of h.once hn).1
    · rw [findU_none hn]; exact ⟨Nat.zero_le _, Nat.zero_le _, Nat.zero_le _, Nat.zero_le _, Nat.zero_le _, Nat.zero_le _⟩
  have O0 := (Own.start w).made_at 63 8 #[.string ⟨#[]⟩, .slice none 0 0, .slice none 0 0, .slice none 0 0, .slice none 0 0, .slice none 0 0, .slice none 0 0, .int .i64 0] 1 w.heap.size rfl rfl (by unfold maxLen; decide)
  have HO0 := Lib.hid O0
  have hone := Lib.hid hx.one
  have hcs : (Tryz.prog.info? 63).map (·.size) = some x.cells.length := info_uv
  have HX := Lib.hid hx
  have h8 := Lib.hid (show (8 : Nat) = x.cells.length from rfl)
  have KA := Lib.hid (fun W (hb : Below w.heap.size w W) => (show Calls Tryz.prog 47 #[.agg x.cells.toArray] W _ from apart_any W x (findU us n) (hx.later hb) hbnd))
  clear hl0 h hU hx hB0 hbnd O0
  unfold UV.val at hl
  generalize toB n = nb at *
  generalize decide (n ∈ namesU us) = b at *
  generalize x.cells = cs at *
  go_enter Tryz.func21, Tryz.ntmps21
  go_upto_region 2 with (refine wpList_store_new rfl 63 (.tmp 6) (.tmp 15) rfl HO0.out cs (w.heap.size + 1) (by simp) rfl rfl h8.out hcs hone.out ?_)
  intro w1 hO1 _
  have hr1 : w1.rangeAt (w.heap.size + 1) 0 cs := by
    have := hO1.range 0 cs.length
    rw [List.drop_zero, List.take_length] at this
    exact this
  have ka := KA.out w1 hO1.below
  have HO1 := Lib.hid hO1
  clear hO1 hl hc
  go_wp2_with (first
    | (refine wpList_load_mid rfl 63 (.tmp 6) rfl (w.heap.size + 1) 0 rfl cs _ hr1 Tryz.underlying63 rfl hcs ?_)
    | (go_at_call 47; refine ka.mono ?_; rintro e w2 ⟨y, rfl, _, _, hO2⟩; have HO2 := Lib.hid (HO1.out.join hO2); have Hy := Lib.hid ((show Units w2 [y] [findU us n] from Like.units hO2 (.cons ‹_› ‹_› .nil) (fun r hr => by simpa [rowsAll] using hr))); clear hO2)
    | (refine wpList_store_mid rfl 63 (.tmp 4) (.tmp 18) rfl w.heap.size 0 y.cells.toArray rfl rfl (by
        have h9 : Own w w2 (⟨63, 8, .slice (some ⟨w.heap.size, 0, none⟩) 1 1, 1, UV.zero.cells⟩ :: (rows6 y (findU us n) ++ [⟨63, cs.length, .slice (some ⟨w.heap.size + 1, 0, none⟩) 1 1, 1, cs⟩])) := HO2.out.perm (by
          have e1 : (rows6 y (findU us n) ++ [⟨63, cs.length, .slice (some ⟨w.heap.size + 1, 0, none⟩) 1 1, 1, cs⟩, ⟨63, 8, .slice (some ⟨w.heap.size, 0, none⟩) 1 1, 1, UV.zero.cells⟩]) = (rows6 y (findU us n) ++ [⟨63, cs.length, .slice (some ⟨w.heap.size + 1, 0, none⟩) 1 1, 1, cs⟩]) ++ [⟨63, 8, .slice (some ⟨w.heap.size, 0, none⟩) 1 1, 1, UV.zero.cells⟩] := by simp
          refine (List.Perm.of_eq e1).trans ?_
          exact List.perm_append_comm)
        exact h9.there 0 8 (by decide)) info_uv (by
        cases Hy.out with
        | cons h1 _ => exact all_oneCell_toArray h1.one) ?_))
  have hO3 : Own w w2 (⟨63, 8, .slice (some ⟨w.heap.size, 0, none⟩) 1 1, 1, UV.zero.cells⟩ :: (rows6 y (findU us n) ++ [⟨63, cs.length, .slice (some ⟨w.heap.size + 1, 0, none⟩) 1 1, 1, cs⟩])) := HO2.out.perm (by
    have e1 : (rows6 y (findU us n) ++ [⟨63, cs.length, .slice (some ⟨w.heap.size + 1, 0, none⟩) 1 1, 1, cs⟩, ⟨63, 8, .slice (some ⟨w.heap.size, 0, none⟩) 1 1, 1, UV.zero.cells⟩]) = (rows6 y (findU us n) ++ [⟨63, cs.length, .slice (some ⟨w.heap.size + 1, 0, none⟩) 1 1, 1, cs⟩]) ++ [⟨63, 8, .slice (some ⟨w.heap.size, 0, none⟩) 1 1, 1, UV.zero.cells⟩] := by simp
    exact (List.Perm.of_eq e1).trans List.perm_append_comm)
  have h9 := hO3.setCells y.cells 0
  rw [splice_all' UV.zero.cells y.cells rfl] at h9
  have hr9 : (w2.setCells w.heap.size 0 y.cells).rangeAt w.heap.size 0 y.cells := h9.range 0 8
  have h1y : UVIs w2 y (findU us n) := by
    cases Hy.out with
    | cons h1 _ => exact h1
  have hO6 : Own w (w2.setCells w.heap.size 0 y.cells) (rows6 y (findU us n)) := (h9.tail.perm List.perm_append_comm).tail
  refine bodyPost_ret (v := .tuple #[.agg y.cells.toArray, .bool b]) (ret_cell_tmpG Tryz.results21 rfl rfl hr9 Tryz.underlying63 rfl info_uv) rfl ?_
  exact ⟨y, h1y.name, h1y.ret, Like.units hO6 (.cons h1y.name h1y.ret .nil) (fun r hr => by simpa [rowsAll] using hr) |>.first, rfl, hO6⟩
end Go.Proofs.YtkhnkidggcjfeaaGreatDoor
end
section
namespace Go.Proofs.YtkhnkidggcjfeaaGreatDoor
open Go.RowKit
open Go.ChangeMaps (setBlock)
theorem Own.joinS {w0 w w' : World} {S S' : Blocks} {L M : List Rw} (h : Own ⟨w0, S⟩ w L) (k : Own ⟨w, S'⟩ w' M) : Own ⟨w0, S' ++ S⟩ w' (M ++ L) := by
  have k1 : Own w w' M := k.forget (S' := []) fun m hm => by cases hm
  have hj := h.join k1
  refine ⟨hj.below, hj.rows, hj.apart, fun m hm => ?_, fun m hm p hp => ?_⟩
  · rcases List.mem_append.1 hm with h1 | h1
    · exact ⟨Nat.le_trans h.size (k.maps m h1).1, (k.maps m h1).2⟩
    · exact hj.maps m h1
  · rcases List.mem_append.1 hm with h1 | h1
    · rcases List.mem_append.1 hp with h2 | h2
      · exact k.offmaps m h1 p h2
      · intro e
        have h3 := (h.lt h2 e).2
        have h4 : w.heap.size ≤ m.1 := (k.maps m h1).1
        omega
    · exact hj.offmaps m h1 p hp
section
variable {w0 w w' : World} {K K' : Blocks} {S' : Blocks} {L0 L1 M rs : List Rw} {v : Nat} {X : VX} {Y : Tab}
theorem VTX.join (h : VTX w0 K L0 v X Y rs w) (k : Own ⟨w, S'⟩ w' M) : VTX w0 (S' ++ K) (M ++ L0) v X Y rs w' := by
  obtain ⟨S, R, L, T, h0, h1, h2, h3, h4, h5⟩ := h
  have hO : Own ⟨w0, S' ++ S⟩ w' (rs ++ (R ++ (M ++ L))) := (h0.joinS k).perm (by
    have e1 : (M ++ (rs ++ (R ++ L))).Perm ((rs ++ (R ++ L)) ++ M) := List.perm_append_comm
    refine e1.trans ?_
    rw [List.append_assoc, List.append_assoc]
    exact (List.Perm.append_left _ (List.Perm.append_left _ List.perm_append_comm)))
  have hin : ∀ b x, (b, x) ∈ S → (b, x) ∈ S' ++ S := fun b x hx => List.mem_append_right _ hx
  have hnew : ∀ b x, (b, x) ∈ S' → w.heap.size ≤ b := fun b x hx => (k.maps _ hx).1
  refine ⟨S' ++ S, R, M ++ L, T, hO, ?_, h2.mono (fun b x _ hx => hin b x hx) (fun x hx => List.mem_append_right _ hx), h3, fun x hx => ?_, fun b x hb => ?_⟩
  · exact { h1 with
      own := hO.under
      tree := h1.tree.mono (fun b x _ hx => hin b x hx) (fun _ _ hh => hh.mono fun x hx => List.mem_append_right _ hx)
      cells := hin _ _ h1.cells
      map := by
        obtain ⟨o, m1, m2⟩ := h1.map
        exact ⟨o, hin _ _ m1, m2⟩ }
  · rcases List.mem_append.1 hx with hx | hx
    · exact List.mem_append_left _ hx
    · exact List.mem_append_right _ (h4 x hx)
  · rcases List.mem_append.1 hb with hb | hb
    · have hl := hnew b x hb
      exact ⟨List.mem_append_left _ hb, fun hx => (by have := (h1.lt hx).2; omega), fun hx => (by have := h2.lt h1.ownL _ hx; omega)⟩
    · obtain ⟨q1, q2, q3⟩ := h5 b x hb
      exact ⟨hin b x q1, q2, q3⟩
theorem VTX.newK (h : VTX w0 K L0 v X Y rs w) (o : Obj) : VTX w0 ((w.heap.size, o) :: K) L0 v X Y rs (w.alloc o) := by
  have := h.join (M := []) ((Own.start w).newB o)
  exact this
theorem VTX.below (h : VTX w0 K L0 v X Y rs w) : Below w0.heap.size w0 w := h.vt.below
theorem VTX.cellK (h : VTX w0 K L0 v X Y rs w) {b : Nat} {x : Obj} (hb : (b, x) ∈ K) : w.heap[b]? = some x := h.vt.cellK hb
theorem VTX.lenT {e size n : Nat} {vv : Value} {xs : List Value} (h : VTX w0 K L0 v X Y (⟨e, size, vv, n, xs⟩ :: rs) w) : xs.length = n * size := by
  obtain ⟨S, N, hO, _, _⟩ := h.grow
  exact Own.len (h := (show Own _ w (⟨e, size, vv, n, xs⟩ :: (rs ++ N)) from hO))
theorem VTX.ownK (h : VTX w0 K L0 v X Y rs w) : ∃ L, Own ⟨w0, K⟩ w L ∧ ∀ x ∈ L0, x ∈ L := by
  obtain ⟨S, R, L, T, h0, h1, h2, h3, h4, h5⟩ := h
  exact ⟨L, h1.ownL.forget fun m hm => (h5 m.1 m.2 hm).1, h4⟩
theorem VTX.sts (h : VTX w0 K L0 v X Y rs w) {hv : Value} {fs : List Nm} (hr : rowSs hv fs ∈ L0) : Sts w hv fs := by
  obtain ⟨L, hO, hs⟩ := h.ownK
  exact hO.stsMem (hs _ hr)
end
section
variable {w0 w w' : World} {K : Blocks} {L0 rs : List Rw} {v e size n : Nat} {X : VX} {Y : Tab} {vv : Value} {xs : List Value}
theorem VTX.call1 {α : Type} {f : FuncId} {args : Array Value} {P : α → Ending → Prop} {X' : α → VX} {Y' : α → Tab} (h : VTX w0 K L0 v X Y [⟨e, size, vv, n, xs⟩] w)
    (hc : ∀ K' : Blocks, (∀ b x, (b, x) ∈ K → (b, x) ∈ K') → VT w0 K' L0 v X Y w → Calls Tryz.prog f args w fun r w' => ∃ a, P a r ∧ VT w0 K' L0 v (X' a) (Y' a) w') :
    Calls Tryz.prog f args w fun r w' => ∃ a, P a r ∧ VTX w0 K L0 v (X' a) (Y' a) [⟨e, size, vv, n, xs⟩] w' := by
  have hl := h.lenT
  rcases VTX.freeze (show VTX w0 K L0 v X Y (⟨e, size, vv, n, xs⟩ :: []) w from h) with ⟨e1, e2, e3, h2⟩ | ⟨g, cap, cur, e1, k1, k2, k3, k4, _, h2, hne⟩
  · refine (hc K (fun b x hb => hb) h2.vt).mono fun r w' hh => ?_
    obtain ⟨a, h3, h4⟩ := hh
    subst e1 e2 e3
    exact ⟨a, h3, h4.vtx.nilrow _ _⟩
  · refine (hc _ (fun b x hb => List.mem_cons_of_mem _ hb) h2.vt).mono fun r w' hh => ?_
    obtain ⟨a, h3, h4⟩ := hh
    subst e1
    exact ⟨a, h3, h4.vtx.thaw hne k1 k2 k3 k4 hl⟩
end
def GK (w0 : World) (K : Blocks) (L0 : List Rw) (g : Nat) (us : List GU) (ord : List Nm) : Prop := ∀ (K' : Blocks) (w' : World) (L' : List Rw), (∀ m ∈ K, m ∈ K') → (∀ r ∈ L0, r ∈ L') → Own ⟨w0, K'⟩ w' L' → GAt w' g us ord
theorem GK.at {w0 w : World} {K : Blocks} {L0 rs : List Rw} {v g : Nat} {X : VX} {Y : Tab} {us : List GU} {ord : List Nm} (k : GK w0 K L0 g us ord) (h : VTX w0 K L0 v X Y rs w) : GAt w g us ord := by
  obtain ⟨L, hO, hs⟩ := h.ownK
  exact k K w L (fun _ h => h) hs hO
theorem GK.mono {w0 : World} {K K' : Blocks} {L0 L1 : List Rw} {g : Nat} {us : List GU} {ord : List Nm} (k : GK w0 K L0 g us ord) (hK : ∀ m ∈ K, m ∈ K') (hL : ∀ r ∈ L0, r ∈ L1) : GK w0 K' L1 g us ord :=
  fun K2 w' L' h1 h2 hO => k K2 w' L' (fun m hm => h1 m (hK m hm)) (fun r hr => h2 r (hL r hr)) hO
theorem GIn.gk {w0 : World} {S : Blocks} {L : List Rw} {g : Nat} {us : List GU} {ord : List Nm} (h : GIn S L g us ord) : GK w0 S L g us ord := fun K' w' L' h1 h2 hO => h w0 K' w' L' h1 h2 hO
end Go.Proofs.YtkhnkidggcjfeaaGreatDoor
end
section
namespace Go.Proofs.YtkhnkidggcjfeaaGreatDoor
open Go.RowKit
open Go.ChangeMaps (setBlock)
theorem putV_map {α β γ : Type} [DecidableEq α] (f : β → γ) (m : List (α × β)) (a : α) (v : β) : (put m a v).map (fun p => (p.1, f p.2)) = put (m.map fun p => (p.1, f p.2)) a (f v) := by
  induction m with
  | nil => rfl
  | cons q r ih =>
    simp only [List.map_cons]
    unfold put
    split
    · rfl
    · rw [List.map_cons, ih]
theorem delV_map {α β γ : Type} [DecidableEq α] (f : β → γ) (m : List (α × β)) (a : α) : (del m a).map (fun p => (p.1, f p.2)) = del (m.map fun p => (p.1, f p.2)) a := by
  induction m with
  | nil => rfl
  | cons q r ih =>
    simp only [List.map_cons]
    unfold del
    split
    · rfl
    · rw [List.map_cons, ih]
theorem lookV_map {α β γ : Type} [DecidableEq α] (f : β → γ) (m : List (α × β)) (a : α) : look (m.map fun p => (p.1, f p.2)) a = (look m a).map f := by
  induction m with
  | nil => rfl
  | cons q r ih =>
    simp only [List.map_cons]
    unfold look
    split
    · rfl
    · exact ih
structure RV where
  state : Int
  pid : Int
  tries : Int
  files : List Nm
def RV.zero : RV := ⟨0, 0, 0, []⟩
structure MV where
  E : Et
  held : List (Int × Int)
  last : Int
  runs : List (Int × (ByteArray × List Int × Bool))
  mr : List (Nm × RV)
  evs : List (Int × Nm)
  bud : Nat × Nat × Nat × Nat
def XV (E : Et) (held : List (Int × Int)) : VX := ⟨0, 0, 0, 0, E, 0, held, ⟨[], [], [], 0, 0, 0, false⟩, 0, 0, 0, 0, 0, []⟩
def MV.x (V : MV) : VX := XV V.E V.held
def budX (X : VX) : Nat × Nat × Nat × Nat := (X.B, X.used, X.h, X.st)
theorem budX_let (X : VX) (i : Int) : budX (letX X i) = budX X := by
  unfold letX
  split
  · rfl
  · split <;> rfl
theorem budX_letAll (X : VX) (ids : List Int) : budX (letAll X ids) = budX X := by
  unfold letAll
  induction ids generalizing X with
  | nil => rfl
  | cons i r ih => rw [List.foldl_cons, ih, budX_let]
theorem budX_hold (X : VX) (l : List UInt8) : budX (holdX X l) = budX X := by
  unfold holdX
  split <;> rfl
theorem budX_holds (X : VX) (acc : List Int) (ls : List (List UInt8)) : budX (holdFrom (X, acc) ls).2.2 = budX X := by
  induction ls generalizing X acc with
  | nil => rfl
  | cons l r ih =>
    unfold holdFrom
    show budX (if codeX X l = 0 then _ else _ : Int × List Int × VX).2.2 = _
    split
    · exact (ih (holdX X l) (acc ++ [numX X l])).trans (budX_hold X l)
    · exact budX_letAll X acc
def LikeX (X X' : VX) : Prop := X.E = X'.E ∧ X.held = X'.held
theorem LikeX.code {X X' : VX} (h : LikeX X X') (l : List UInt8) : codeX X l = codeX X' l := by unfold codeX; rw [h.1]
theorem LikeX.num {X X' : VX} (h : LikeX X X') (l : List UInt8) : numX X l = numX X' l := by unfold numX; rw [h.code, h.1]
theorem LikeX.hold {X X' : VX} (h : LikeX X X') (l : List UInt8) : LikeX (holdX X l) (holdX X' l) := by
  unfold holdX
  rw [h.code, h.num, h.2]
  split
  · exact ⟨h.1, rfl⟩
  · exact h
theorem LikeX.letX {X X' : VX} (h : LikeX X X') (i : Int) : LikeX (letX X i) (letX X' i) := by
  unfold Go.Proofs.YtkhnkidggcjfeaaGreatDoor.letX
  rw [h.2]
  split
  · exact h
  · split
    · exact ⟨by show reapE X.E [i] = reapE X'.E [i]; rw [h.1], rfl⟩
    · exact ⟨h.1, rfl⟩
theorem LikeX.letAll {X X' : VX} (h : LikeX X X') (ids : List Int) : LikeX (letAll X ids) (letAll X' ids) := by
  unfold Go.Proofs.YtkhnkidggcjfeaaGreatDoor.letAll
  induction ids generalizing X X' with
  | nil => exact h
  | cons i r ih => exact ih (h.letX i)
theorem LikeX.holds {X X' : VX} (h : LikeX X X') (ls : List (List UInt8)) (acc : List Int) : (holdFrom (X, acc) ls).1 = (holdFrom (X', acc) ls).1 ∧ (holdFrom (X, acc) ls).2.1 = (holdFrom (X', acc) ls).2.1 ∧ LikeX (holdFrom (X, acc) ls).2.2 (holdFrom (X', acc) ls).2.2 := by
  induction ls generalizing X X' acc with
  | nil => exact ⟨rfl, rfl, h⟩
  | cons l r ih =>
    unfold holdFrom
    show (if codeX X l = 0 then _ else _ : Int × List Int × VX).1 = (if codeX X' l = 0 then _ else _ : Int × List Int × VX).1 ∧ _
    rw [h.code]
    split
    · have := ih (h.hold l) (acc ++ [numX X l])
      rw [h.num] at this ⊢
      exact this
    · exact ⟨rfl, rfl, h.letAll acc⟩
theorem HeldOk.like {M : Nat} {X X' : VX} (h : HeldOk M X) (k : LikeX X X') : HeldOk M X' := by
  unfold HeldOk at h ⊢
  rw [← k.2]
  exact h
theorem letAll_ok {M : Nat} {X : VX} (h : HeldOk M X) (ids : List Int) : HeldOk M (letAll X ids) := by
  unfold letAll
  induction ids generalizing X with
  | nil => exact h
  | cons i r ih => exact ih (letX_ok h i)
theorem HeldOk.mono {M M' : Nat} {X : VX} (h : HeldOk M X) (hm : M ≤ M') : HeldOk M' X := ⟨h.1, fun i => by have := h.2 i; omega⟩
theorem holdFrom_ok {M : Nat} {X : VX} (h : HeldOk M X) (acc : List Int) (ls : List (List UInt8)) : HeldOk (M + ls.length) (holdFrom (X, acc) ls).2.2 := by
  induction ls generalizing X acc M with
  | nil => exact h
  | cons l r ih =>
    unfold holdFrom
    show HeldOk _ (if codeX X l = 0 then _ else _ : Int × List Int × VX).2.2
    split
    · have := ih (holdX_ok h l) (acc ++ [numX X l])
      exact this.mono (by rw [List.length_cons]; omega)
    · exact (letAll_ok h acc).mono (by omega)
theorem holdFrom_len (X : VX) (acc : List Int) (ls : List (List UInt8)) : (holdFrom (X, acc) ls).2.1.length ≤ acc.length + ls.length := by
  induction ls generalizing X acc with
  | nil => exact Nat.le_refl _
  | cons l r ih =>
    unfold holdFrom
    show (if codeX X l = 0 then _ else _ : Int × List Int × VX).2.1.length ≤ _
    split
    · have := ih (holdX X l) (acc ++ [numX X l])
      simp only [List.length_append, List.length_cons, List.length_nil] at this ⊢
      exact Nat.le_trans this (by omega)
    · exact Nat.zero_le _
def ofV (V : MV) (n : Nm) : RV := (look V.mr n).getD RV.zero
def onV (V : MV) (ls : List Nm) : Bool := ls.all fun x => (ofV V x).state == 2
def turnV (V : MV) (n : Nm) (r : RV) (kind : Int) : MV := { V with mr := if r.state = 0 then del V.mr n else put V.mr n r, evs := V.evs ++ [(kind, n)] }
def spawnC (V : MV) (files : List Nm) : Int := if 8 < files.length then 22 else if 32 ≤ V.runs.length then 7 else (holdFrom (V.x, []) files).1
def spawnV (V : MV) (u : ByteArray) (files : List Nm) : MV :=
  if 8 < files.length then V else if 32 ≤ V.runs.length then V else
    if (holdFrom (V.x, []) files).1 = 0 then { V with E := (holdFrom (V.x, []) files).2.2.E, held := (holdFrom (V.x, []) files).2.2.held, last := V.last + 1, runs := put V.runs (V.last + 1) (u, (holdFrom (V.x, []) files).2.1, false) }
    else { V with E := (holdFrom (V.x, []) files).2.2.E, held := (holdFrom (V.x, []) files).2.2.held }
def issueV (V : MV) (n : Nm) (files : List Nm) (tries : Int) : Int × MV :=
  if spawnC V files = 0 then (0, turnV (spawnV V (toB n) files) n ⟨1, V.last + 1, tries, files⟩ 0) else (spawnC V files, turnV (spawnV V (toB n) files) n ⟨4, 0, 0, []⟩ 4)
def startV (us : List GU) (V : MV) (n : Nm) : Int × MV :=
  if n ∉ namesU us then (8, V) else if (ofV V n).state ≠ 0 ∧ (ofV V n).state ≠ 4 then (20, V) else if onV V (findU us n).re = false then (16, V) else issueV V n (findU us n).fi 0
def readyV (V : MV) (n : Nm) : Int × MV := if (ofV V n).state ≠ 1 then (20, V) else (0, turnV V n { ofV V n with state := 2 } 1)
def killV (V : MV) (pid : Int) : MV := match look V.runs pid with
  | none => V
  | some p => { V with runs := put V.runs pid (p.1, p.2.1, true) }
def exitV (V : MV) (pid : Int) : MV := match look V.runs pid with
  | none => V
  | some p => { V with E := (letAll V.x p.2.1).E, held := (letAll V.x p.2.1).held, runs := del V.runs pid }
def stopV (V : MV) (n : Nm) : Int × MV :=
  if (ofV V n).state = 1 ∨ (ofV V n).state = 2 then (0, turnV (killV V (ofV V n).pid) n { ofV V n with state := 3 } 2) else if (ofV V n).state = 4 then (0, turnV V n RV.zero 3) else (20, V)
def failV (us : List GU) (V : MV) (n : Nm) : Int × MV :=
  if (ofV V n).pid = 0 then (20, V) else
    if (ofV V n).state = 3 then (0, turnV (exitV V (ofV V n).pid) n RV.zero 3)
    else if (ofV V n).state = 1 ∧ n ∈ namesU us ∧ (ofV V n).tries < (findU us n).ret ∧ onV V (findU us n).re = true then (0, (issueV (exitV V (ofV V n).pid) n (findU us n).fi ((ofV V n).tries + 1)).2)
    else (0, turnV (exitV V (ofV V n).pid) n ⟨4, 0, 0, []⟩ 4)
def pickV (V : MV) (pid : Int) : Int × MV := match look V.runs pid with
  | none => (8, V)
  | some p => if p.2.2 = true then (0, turnV (exitV V pid) p.1.data.toList RV.zero 3) else (0, V)
structure Gd (N : Nat) (V : MV) : Prop where
  held : HeldOk (8 * N) V.x
  keys : (V.runs.map (·.1)).Nodup
  last : 0 ≤ V.last ∧ V.last ≤ N
  each : ∀ p ∈ V.runs, (1 ≤ p.1 ∧ p.1 ≤ V.last) ∧ p.2.2.1.length ≤ 8
  evs : V.evs.length ≤ N
  few : V.mr.length ≤ N
  lens : ∀ p ∈ V.mr, p.1.length ≤ p.1.length
  nodup : (V.mr.map (·.1)).Nodup
  some_ : V.runs.length ≤ N
  tri : ∀ p ∈ V.mr, 0 ≤ p.2.tries ∧ p.2.tries ≤ N
theorem put_len {α β : Type} [DecidableEq α] (m : List (α × β)) (a : α) (v : β) : (put m a v).length ≤ m.length + 1 := by
  induction m with
  | nil => exact Nat.le_refl _
  | cons q r ih =>
    unfold put
    split
    · simp
    · simp only [List.length_cons]; omega
theorem put_mem {α β : Type} [DecidableEq α] {m : List (α × β)} {a : α} {v : β} {p : α × β} (h : p ∈ put m a v) : p = (a, v) ∨ p ∈ m := by
  induction m with
  | nil =>
    unfold put at h
    exact .inl (List.mem_singleton.1 h)
  | cons q r ih =>
    unfold put at h
    split at h
    · rcases List.mem_cons.1 h with h | h
      · exact .inl h
      · exact .inr (List.mem_cons_of_mem _ h)
    · rcases List.mem_cons.1 h with h | h
      · exact .inr (h ▸ List.mem_cons_self ..)
      · exact (ih h).imp id (List.mem_cons_of_mem _)
theorem Gd.mono {N M : Nat} {V : MV} (h : Gd N V) (hm : N ≤ M) : Gd M V :=
  ⟨h.held.mono (by omega), h.keys, ⟨h.last.1, by have := h.last.2; omega⟩, h.each, Nat.le_trans h.evs hm, Nat.le_trans h.few hm, h.lens, h.nodup, Nat.le_trans h.some_ hm, fun p hp => by have := h.tri p hp; omega⟩
theorem Gd.of {N : Nat} {V : MV} (h : Gd N V) (n : Nm) : 0 ≤ (ofV V n).tries ∧ (ofV V n).tries ≤ N := by
  unfold ofV
  cases hl : look V.mr n with
  | none => exact ⟨Int.le_refl 0, by show (0 : Int) ≤ N; omega⟩
  | some r => exact h.tri _ (look_mem hl)
theorem Gd.turn {N : Nat} {V : MV} (h : Gd N V) (n : Nm) (r : RV) (kind : Int) (hn : n.length ≤ n.length) (hr : 0 ≤ r.tries ∧ r.tries ≤ N + 1) : Gd (N + 1) (turnV V n r kind) := by
  have h1 := h.mono (Nat.le_succ N)
  refine ⟨h1.held, h1.keys, h1.last, h1.each, ?_, ?_, ?_, ?_, h1.some_, ?_⟩
  · show (V.evs ++ [_]).length ≤ N + 1
    have := h.evs
    simp; omega
  · show (if r.state = 0 then del V.mr n else put V.mr n r).length ≤ N + 1
    have h2 := h.few
    split
    · have := (del_sub V.mr n).length_le; omega
    · have := put_len V.mr n r; omega
  · intro p hp
    have hp' : p ∈ (if r.state = 0 then del V.mr n else put V.mr n r) := hp
    split at hp'
    · exact h.lens p ((del_sub V.mr n).subset hp')
    · rcases put_mem hp' with rfl | hp'
      · exact hn
      · exact h.lens p hp'
  · show ((if r.state = 0 then del V.mr n else put V.mr n r).map (·.1)).Nodup
    split
    · exact h.nodup.sublist ((del_sub _ _).map _)
    · exact put_nodup h.nodup _ _
  · intro p hp
    have hp' : p ∈ (if r.state = 0 then del V.mr n else put V.mr n r) := hp
    split at hp'
    · exact h1.tri p ((del_sub V.mr n).subset hp')
    · rcases put_mem hp' with rfl | hp'
      · exact ⟨hr.1, by show r.tries ≤ ((N + 1 : Nat) : Int); omega⟩
      · exact h1.tri p hp'
theorem Gd.exit {N : Nat} {V : MV} (h : Gd N V) (pid : Int) : Gd N (exitV V pid) := by
  unfold exitV
  cases hl : look V.runs pid with
  | none => exact h
  | some p =>
    have hs : (del V.runs pid).Sublist V.runs := del_sub _ _
    exact ⟨(letAll_ok h.held p.2.1).like ⟨rfl, rfl⟩, h.keys.sublist (hs.map _), h.last, fun q hq => h.each q (hs.subset hq), h.evs, h.few, h.lens, h.nodup, Nat.le_trans hs.length_le h.some_, h.tri⟩
theorem Gd.spawn {N : Nat} {V : MV} (h : Gd N V) (u : ByteArray) (files : List Nm) : Gd (N + 1) (spawnV V u files) := by
  have h1 := h.mono (Nat.le_succ N)
  unfold spawnV
  split
  · exact h1
  split
  · exact h1
  rename_i h8 h32
  have hk : HeldOk (8 * (N + 1)) (holdFrom (V.x, []) files).2.2 := (holdFrom_ok h.held [] files).mono (by omega)
  split
  · have hlen := holdFrom_len V.x [] files
    refine ⟨hk.like ⟨rfl, rfl⟩, put_nodup h.keys _ _, ?_, fun q hq => ?_, h1.evs, h1.few, h1.lens, h1.nodup, ?_, h1.tri⟩
    · have := h.last
      show 0 ≤ V.last + 1 ∧ V.last + 1 ≤ ((N + 1 : Nat) : Int)
      omega
    · have h0 := h.last
      rcases put_mem hq with rfl | hq
      · refine ⟨⟨?_, Int.le_refl _⟩, ?_⟩
        · show 1 ≤ V.last + 1; omega
        · show (holdFrom (V.x, []) files).2.1.length ≤ 8
          simp only [List.length_nil] at hlen
          omega
      · obtain ⟨⟨q1, q2⟩, q3⟩ := h.each q hq
        exact ⟨⟨q1, by show q.1 ≤ V.last + 1; omega⟩, q3⟩
    · show (put V.runs _ _).length ≤ N + 1
      have := put_len V.runs (V.last + 1) (u, (holdFrom (V.x, []) files).2.1, false)
      have := h.some_
      omega
  · exact ⟨hk.like ⟨rfl, rfl⟩, h1.keys, h1.last, h1.each, h1.evs, h1.few, h1.lens, h1.nodup, h1.some_, h1.tri⟩
theorem Gd.free {N : Nat} {V : MV} (h : Gd N V) : look V.runs (V.last + 1) = none := by
  cases hl : look V.runs (V.last + 1) with
  | none => rfl
  | some p =>
    have := (h.each _ (look_mem hl)).1.2
    dsimp only at this
    omega
theorem Gd.issue {N : Nat} {V : MV} (h : Gd N V) (n : Nm) (files : List Nm) (tries : Int) (hn : n.length ≤ n.length) (ht : 0 ≤ tries ∧ tries ≤ N + 1) : Gd (N + 2) (issueV V n files tries).2 := by
  unfold issueV
  split
  · exact (h.spawn _ _).turn n _ 0 hn ⟨ht.1, by show tries ≤ _; omega⟩
  · exact (h.spawn _ _).turn n _ 4 hn ⟨Int.le_refl 0, by show (0 : Int) ≤ (_ : Int) + 1; omega⟩
theorem Gd.start {N : Nat} {V : MV} (h : Gd N V) (us : List GU) (n : Nm) (hn : n.length ≤ n.length) : Gd (N + 2) (startV us V n).2 := by
  have h2 := h.mono (Nat.le_add_right N 2)
  unfold startV
  split
  · exact h2
  split
  · exact h2
  split
  · exact h2
  · exact h.issue n _ 0 hn ⟨Int.le_refl 0, by omega⟩
theorem Gd.fail {N : Nat} {V : MV} (h : Gd N V) (us : List GU) (n : Nm) (hn : n.length ≤ n.length) : Gd (N + 2) (failV us V n).2 := by
  unfold failV
  split
  · exact h.mono (Nat.le_add_right N 2)
  split
  · exact Gd.mono (N := N + 1) ((h.exit _).turn n _ 3 hn ⟨Int.le_refl 0, by show (0 : Int) ≤ (_ : Int) + 1; omega⟩) (by omega)
  split
  · exact (h.exit _).issue n _ _ hn ⟨by have := (h.of n).1; omega, by have := (h.of n).2; omega⟩
  · exact Gd.mono (N := N + 1) ((h.exit _).turn n _ 4 hn ⟨Int.le_refl 0, by show (0 : Int) ≤ (_ : Int) + 1; omega⟩) (by omega)
theorem exit_mr (V : MV) (pid : Int) : (exitV V pid).mr = V.mr := by
  unfold exitV
  cases look V.runs pid <;> rfl
theorem on_exit (V : MV) (pid : Int) (ls : List Nm) : onV (exitV V pid) ls = onV V ls := by
  unfold onV ofV
  rw [exit_mr]
end Go.Proofs.YtkhnkidggcjfeaaGreatDoor
end
section
namespace Go.Proofs.YtkhnkidggcjfeaaGreatDoor
open Go.RowKit
open Go.ChangeMaps (setBlock)
structure RunD where
  state : Int
  pid : Int
  hv : Value
  tries : Int
  files : List Nm
def RunD.val (r : RunD) : Value := .agg #[.int .i64 r.state, .int .i64 r.pid, r.hv, .int .i64 r.tries]
def RunD.zero : RunD := ⟨0, 0, .slice none 0 0, 0, []⟩
def RunD.view (r : RunD) : RV := ⟨r.state, r.pid, r.tries, r.files⟩
def RunD.Ok (L0 : List Rw) (r : RunD) : Prop := (r.hv = .slice none 0 0 ∧ r.files = []) ∨ rowSs r.hv r.files ∈ L0
theorem RunD.Ok.mono {L0 L1 : List Rw} {r : RunD} (h : r.Ok L0) (hs : ∀ x ∈ L0, x ∈ L1) : r.Ok L1 := h.imp id (hs _)
structure MS where
  m : Nat
  g : Nat
  rb : Nat
  ev : Value
  evs : List (Int × Nm)
  runs : List (Nm × RunD)
def MS.of (M : MS) (n : Nm) : RunD := (look M.runs n).getD RunD.zero
def runsR (l : List (Nm × RunD)) : List (Nm × Value) := l.map fun p => (p.1, p.2.val)
def evC (l : List (Int × Nm)) : List Value := (l.map fun e => [Value.int .i64 e.1, .string (toB e.2)]).flatten
theorem evC_snoc (l : List (Int × Nm)) (k : Int) (n : Nm) : evC (l ++ [(k, n)]) = evC l ++ [.int .i64 k, .string (toB n)] := by simp [evC]
def rowEv (v : Value) (l : List (Int × Nm)) : Rw := ⟨129, 2, v, l.length, evC l⟩
def mgCells (tb : Nat) (M : MS) : Array Value := #[.pointer (some ⟨tb, 0, none⟩), .pointer (some ⟨M.g, 0, none⟩), .map (some M.rb), M.ev]
structure MgIn (w0 : World) (K : Blocks) (L0 : List Rw) (v : Nat) (X : VX) (Y : Tab) (M : MS) (w : World) : Prop where
  x : ∃ o, VTX w0 ((M.m, .cells (mgCells Y.tb M) 67) :: (M.rb, o) :: K) L0 v X Y [rowEv M.ev M.evs] w ∧ MapO keyN o (runsR M.runs)
  ne : M.m ≠ M.rb
  off : ∀ b x, (b, x) ∈ K → b ≠ M.m ∧ b ≠ M.rb
  has : ∀ p ∈ M.runs, p.2.Ok L0
theorem und_runs : Tryz.prog.underlying 64 = some (.map 9 75) := by kernel_rfl
section
variable {w0 w w' : World} {K K' : Blocks} {S' : Blocks} {L0 L1 N : List Rw} {v : Nat} {X : VX} {Y : Tab} {M : MS}
theorem MgIn.ok (h : MgIn w0 K L0 v X Y M w) (n : Nm) : (M.of n).Ok L0 := by
  unfold MS.of
  cases hl : look M.runs n with
  | none => exact .inl ⟨rfl, rfl⟩
  | some r => exact h.has _ (look_mem hl)
theorem MgIn.below (h : MgIn w0 K L0 v X Y M w) : Below w0.heap.size w0 w := by
  obtain ⟨o, h1, _⟩ := h.x
  exact h1.below
theorem MgIn.later (h : MgIn w0 K L0 v X Y M w) (hb : Below w.heap.size w w') : MgIn w0 K L0 v X Y M w' := by
  obtain ⟨o, h1, h2⟩ := h.x
  exact { h with x := ⟨o, h1.later hb, h2⟩ }
theorem MgIn.block (h : MgIn w0 K L0 v X Y M w) : w.heap[M.m]? = some (.cells (mgCells Y.tb M) 67) := by
  obtain ⟨o, h1, _⟩ := h.x
  exact h1.cellK (List.mem_cons_self ..)
theorem MgIn.cells (h : MgIn w0 K L0 v X Y M w) : (w.cell? ⟨M.m, 0, none⟩ = some (.pointer (some ⟨Y.tb, 0, none⟩)) ∧ w.cell? ⟨M.m, 1, none⟩ = some (.pointer (some ⟨M.g, 0, none⟩)) ∧ w.cell? ⟨M.m, 2, none⟩ = some (.map (some M.rb)) ∧ w.cell? ⟨M.m, 3, none⟩ = some M.ev) ∧ ∀ j, w.frozen? ⟨M.m, j, none⟩ = false :=
  ⟨⟨cell_at h.block 0, cell_at h.block 1, cell_at h.block 2, cell_at h.block 3⟩, fun j => free_at h.block j⟩
theorem MgIn.evForm (h : MgIn w0 K L0 v X Y M w) : ∃ a c, M.ev = .slice a M.evs.length c := by
  obtain ⟨o, h1, _⟩ := h.x
  obtain ⟨S, N, hO, _, _⟩ := h1.grow
  obtain ⟨a, c, e, _⟩ := Own.sized (h := (show Own _ w (⟨129, 2, M.ev, M.evs.length, evC M.evs⟩ :: N) from hO))
  exact ⟨a, c, e⟩
theorem MgIn.lookup (h : MgIn w0 K L0 v X Y M w) (n : Nm) : (Instr.lookup 64 (.map (some M.rb)) (.string (toB n)) false).run Tryz.prog w = .ok (M.of n).val w := by
  obtain ⟨o, h1, h2⟩ := h.x
  have hl := MapO.lookup (P := Tryz.prog) (kindsN und_str) und_runs (z := RunD.zero.val) (by kernel_rfl) h2 (h1.cellK (List.mem_cons_of_mem _ (List.mem_cons_self ..))) n false
  rw [show look (runsR M.runs) n = (look M.runs n).map RunD.val from lookV_map RunD.val M.runs n] at hl
  have e : ((look M.runs n).map RunD.val).getD RunD.zero.val = (M.of n).val := by
    unfold MS.of
    cases look M.runs n <;> rfl
  simp only [Bool.false_eq_true, if_false, e] at hl
  exact hl
theorem MgIn.turnMap (h : MgIn w0 K L0 v X Y M w) (o' : Obj) {rs : List (Nm × RunD)} (hm : MapO keyN o' (runsR rs)) (hh : ∀ p ∈ rs, p.2.Ok L0) : MgIn w0 K L0 v X Y { M with runs := rs } (setBlock w M.rb o') := by
  obtain ⟨o, h1, h2⟩ := h.x
  have h3 : VTX w0 ((M.rb, o) :: (M.m, .cells (mgCells Y.tb M) 67) :: K) L0 v X Y [rowEv M.ev M.evs] w := h1.subK fun b x hb => by
    rcases List.mem_cons.1 hb with hb | hb
    · exact hb ▸ List.mem_cons_of_mem _ (List.mem_cons_self ..)
    · rcases List.mem_cons.1 hb with hb | hb
      · exact hb ▸ List.mem_cons_self ..
      · exact List.mem_cons_of_mem _ (List.mem_cons_of_mem _ hb)
  have h4 := h3.turnK (fun c y hc => by
    rcases List.mem_cons.1 hc with hc | hc
    · obtain ⟨rfl, rfl⟩ := Prod.mk.inj hc
      exact h.ne
    · exact (h.off c y hc).2) o'
  refine ⟨⟨o', h4.subK fun b x hb => ?_, hm⟩, h.ne, h.off, hh⟩
  rcases List.mem_cons.1 hb with hb | hb
  · exact hb ▸ List.mem_cons_of_mem _ (List.mem_cons_self ..)
  · rcases List.mem_cons.1 hb with hb | hb
    · exact hb ▸ List.mem_cons_self ..
    · exact List.mem_cons_of_mem _ (List.mem_cons_of_mem _ hb)
theorem MgIn.delete (h : MgIn w0 K L0 v X Y M w) (n : Nm) : ∃ o', (Builtin.delete_ #[64, 9] 0 #[.map (some M.rb), .string (toB n)]).run Tryz.prog w = .ok (.tuple #[]) (setBlock w M.rb o') ∧ MgIn w0 K L0 v X Y { M with runs := del M.runs n } (setBlock w M.rb o') := by
  obtain ⟨o, h1, h2⟩ := h.x
  obtain ⟨o', e1, e2⟩ := h2.delete (P := Tryz.prog) (kindsN und_str) und_runs (h1.cellK (List.mem_cons_of_mem _ (List.mem_cons_self ..))) n 0
  rw [show del (runsR M.runs) n = runsR (del M.runs n) from (delV_map RunD.val M.runs n).symm] at e2
  exact ⟨o', e1, h.turnMap o' e2 fun p hp => h.has p ((del_sub M.runs n).subset hp)⟩
theorem MgIn.update (h : MgIn w0 K L0 v X Y M w) (n : Nm) {r : RunD} (hr : r.Ok L0) : ∃ o', (Instr.mapUpdate 64 (.map (some M.rb)) (.string (toB n)) r.val).run Tryz.prog w = .ok () (setBlock w M.rb o') ∧ MgIn w0 K L0 v X Y { M with runs := put M.runs n r } (setBlock w M.rb o') := by
  obtain ⟨o, h1, h2⟩ := h.x
  obtain ⟨o', e1, e2⟩ := h2.update (P := Tryz.prog) (kindsN und_str) und_runs (h1.cellK (List.mem_cons_of_mem _ (List.mem_cons_self ..))) n r.val
  rw [show put (runsR M.runs) n r.val = runsR (put M.runs n r) from (putV_map RunD.val M.runs n r).symm] at e2
  refine ⟨o', e1, h.turnMap o' e2 fun p hp => ?_⟩
  rcases put_mem hp with rfl | hp
  · exact hr
  · exact h.has p hp
theorem MgIn.turnCell (h : MgIn w0 K L0 v X Y M w) (j : Nat) (u : Value) {M' : MS} (hm : M'.m = M.m) (hr : M'.rb = M.rb) (hs : M'.runs = M.runs) (hev : M'.ev = M.ev) (hevs : M'.evs = M.evs) (hc : (mgCells Y.tb M).setIfInBounds j u = mgCells Y.tb M') : MgIn w0 K L0 v X Y M' (w.setCell ⟨M.m, j, none⟩ u) := by
  obtain ⟨o, h1, h2⟩ := h.x
  have h4 := h1.turnK (fun c y hcy => by
    rcases List.mem_cons.1 hcy with hcy | hcy
    · obtain ⟨rfl, rfl⟩ := Prod.mk.inj hcy
      exact fun e => h.ne e.symm
    · exact (h.off c y hcy).1) (.cells (mgCells Y.tb M') 67)
  rw [set_at h.block, hc]
  refine ⟨⟨o, ?_, by rw [hs]; exact h2⟩, by rw [hm, hr]; exact h.ne, by rw [hm, hr]; exact h.off, by rw [hs]; exact h.has⟩
  rw [hm, hr, hev, hevs]
  exact h4
theorem MgIn.setG (h : MgIn w0 K L0 v X Y M w) (g : Nat) : MgIn w0 K L0 v X Y { M with g := g } (w.setCell ⟨M.m, 1, none⟩ (.pointer (some ⟨g, 0, none⟩))) :=
  h.turnCell 1 _ rfl rfl rfl rfl rfl rfl
theorem MgIn.grow (h : MgIn w0 K L0 v X Y M w) : ∃ S N, Own ⟨w0, S⟩ w (rowEv M.ev M.evs :: N) ∧ ∀ w' ev' evs', Own ⟨w0, S⟩ w' (rowEv ev' evs' :: N) → (w'.cell? ⟨M.m, 3, none⟩ = some M.ev ∧ w'.frozen? ⟨M.m, 3, none⟩ = false) ∧ MgIn w0 K L0 v X Y { M with ev := ev', evs := evs' } (w'.setCell ⟨M.m, 3, none⟩ ev') := by
  obtain ⟨o, h1, h2⟩ := h.x
  obtain ⟨S, N, hO, hK, back⟩ := h1.grow
  refine ⟨S, N, hO, fun w' ev' evs' hO' => ?_⟩
  have hb : w'.heap[M.m]? = some (.cells (mgCells Y.tb M) 67) := hO'.at (hK _ _ (List.mem_cons_self ..))
  refine ⟨⟨cell_at hb 3, free_at hb 3⟩, ?_⟩
  have h4 := (back w' [rowEv ev' evs'] hO').turnK (fun c y hcy => by
    rcases List.mem_cons.1 hcy with hcy | hcy
    · obtain ⟨rfl, rfl⟩ := Prod.mk.inj hcy
      exact fun e => h.ne e.symm
    · exact (h.off c y hcy).1) (.cells (mgCells Y.tb { M with ev := ev', evs := evs' }) 67)
  rw [set_at hb]
  exact ⟨⟨o, h4, h2⟩, h.ne, h.off, h.has⟩
theorem MgIn.join (h : MgIn w0 K L0 v X Y M w) (k : Own ⟨w, S'⟩ w' N) : MgIn w0 (S' ++ K) (N ++ L0) v X Y M w' := by
  obtain ⟨o, h1, h2⟩ := h.x
  obtain ⟨L, hO, _⟩ := h1.ownK
  refine ⟨⟨o, (h1.join k).subK fun b x hb => ?_, h2⟩, h.ne, fun b x hb => ?_, fun p hp => (h.has p hp).mono fun x hx => List.mem_append_right _ hx⟩
  · rcases List.mem_cons.1 hb with hb | hb
    · exact hb ▸ List.mem_append_right _ (List.mem_cons_self ..)
    · rcases List.mem_cons.1 hb with hb | hb
      · exact hb ▸ List.mem_append_right _ (List.mem_cons_of_mem _ (List.mem_cons_self ..))
      · rcases List.mem_append.1 hb with hb | hb
        · exact List.mem_append_left _ hb
        · exact List.mem_append_right _ (List.mem_cons_of_mem _ (List.mem_cons_of_mem _ hb))
  · rcases List.mem_append.1 hb with hb | hb
    · have h3 : w.heap.size ≤ b := (k.maps _ hb).1
      have h4 := (hO.atLt (List.mem_cons_self ..)).2
      have h5 := (hO.atLt (List.mem_cons_of_mem _ (List.mem_cons_self ..))).2
      omega
    · exact h.off b x hb
theorem MgIn.call {α : Type} {f : FuncId} {args : Array Value} {P : α → Ending → Prop} {X' : α → VX} {Y' : α → Tab} (h : MgIn w0 K L0 v X Y M w) (ht : ∀ a, (Y' a).tb = Y.tb)
    (hc : ∀ K' : Blocks, VT w0 K' L0 v X Y w → Calls Tryz.prog f args w fun r w' => ∃ a, P a r ∧ VT w0 K' L0 v (X' a) (Y' a) w') :
    Calls Tryz.prog f args w fun r w' => ∃ a, P a r ∧ MgIn w0 K L0 v (X' a) (Y' a) M w' := by
  obtain ⟨o, h1, h2⟩ := h.x
  refine (VTX.call1 (P := P) (X' := X') (Y' := Y') (show VTX w0 _ L0 v X Y [⟨129, 2, M.ev, M.evs.length, evC M.evs⟩] w from h1) fun K' _ hV => hc K' hV).mono fun r w' hh => ?_
  obtain ⟨a, h3, h4⟩ := hh
  refine ⟨a, h3, ⟨o, ?_, h2⟩, h.ne, h.off, h.has⟩
  rw [ht a]
  exact h4
theorem MgIn.sts (h : MgIn w0 K L0 v X Y M w) {hv : Value} {fs : List Nm} (hr : rowSs hv fs ∈ L0) : Sts w hv fs := by
  obtain ⟨o, h1, _⟩ := h.x
  exact h1.sts hr
theorem GK.atM {g : Nat} {us : List GU} {ord : List Nm} (k : GK w0 K L0 g us ord) (h : MgIn w0 K L0 v X Y M w) : GAt w g us ord := by
  obtain ⟨o, h1, _⟩ := h.x
  exact k.at (h1.subK fun b x hb => List.mem_cons_of_mem _ (List.mem_cons_of_mem _ hb))
end
def vwP (p : Pr) : ByteArray × List Int × Bool := (p.u, p.maps, p.ends)
def vw (X : VX) (Y : Tab) (M : MS) : MV := ⟨X.E, X.held, Y.last, Y.runs.map fun p => (p.1, vwP p.2), M.runs.map fun p => (p.1, p.2.view), M.evs, budX X⟩
structure OrdX where
  ord : List Nm
  ex : List Rw
  bl : Blocks
instance : Coe (List Nm) OrdX := ⟨fun l => ⟨l, [], []⟩⟩
def GKx (w0 : World) (K : Blocks) (L0 : List Rw) (g : Nat) (us : List GU) (o : OrdX) : Prop :=
  ∃ K1 : Blocks, (∀ m ∈ K1, m ∈ K) ∧ GK w0 K1 L0 g us o.ord ∧ (∀ r ∈ o.ex, r ∈ L0) ∧ ∀ m ∈ o.bl, m ∈ K ∧ ∀ m' ∈ K1, m'.1 ≠ m.1
theorem GKx.mono {w0 : World} {K K' : Blocks} {L0 L1 : List Rw} {g : Nat} {us : List GU} {o : OrdX} (k : GKx w0 K L0 g us o) (hK : ∀ m ∈ K, m ∈ K') (hL : ∀ r ∈ L0, r ∈ L1) : GKx w0 K' L1 g us o := by
  obtain ⟨K1, h1, h2, h3, h4⟩ := k
  exact ⟨K1, fun m hm => hK m (h1 m hm), h2.mono (fun _ h => h) hL, fun r hr => hL r (h3 r hr), fun m hm => ⟨hK m (h4 m hm).1, (h4 m hm).2⟩⟩
theorem GK.x {w0 : World} {K : Blocks} {L0 : List Rw} {g : Nat} {us : List GU} {ord : List Nm} (k : GK w0 K L0 g us ord) : GKx w0 K L0 g us ord := ⟨K, fun _ h => h, k, (fun r hr => nomatch hr), (fun m hm => nomatch hm)⟩
theorem GKx.atM {w0 w : World} {K : Blocks} {L0 : List Rw} {v g : Nat} {X : VX} {Y : Tab} {M : MS} {us : List GU} {o : OrdX} (k : GKx w0 K L0 g us o) (h : MgIn w0 K L0 v X Y M w) : GAt w g us o.ord := by
  obtain ⟨K1, h1, h2, _⟩ := k
  exact (h2.mono h1 (fun _ h => h)).atM h
def MgAt (w0 : World) (v mb tb gb : Nat) (us : List GU) (ord : OrdX) (N : Nat) (V : MV) (w : World) : Prop :=
  ∃ K L0 X Y M, MgIn w0 K L0 v X Y M w ∧ vw X Y M = V ∧ M.m = mb ∧ Y.tb = tb ∧ M.g = gb ∧ GKx w0 K L0 gb us ord ∧ Gd N V
theorem of_vw (X : VX) (Y : Tab) (M : MS) (n : Nm) : ofV (vw X Y M) n = (M.of n).view := by
  unfold ofV MS.of
  show (look (M.runs.map fun p => (p.1, p.2.view)) n).getD RV.zero = _
  rw [lookV_map RunD.view]
  cases look M.runs n <;> rfl
theorem runs_vw (X : VX) (Y : Tab) (M : MS) (pid : Int) : look (vw X Y M).runs pid = (look Y.runs pid).map vwP := lookV_map vwP Y.runs pid
section
variable {w0 w w' : World} {v mb tb gb N : Nat} {us : List GU} {ord : OrdX} {V : MV}
theorem MgAt.below (h : MgAt w0 v mb tb gb us ord N V w) : Below w0.heap.size w0 w := by
  obtain ⟨K, L0, X, Y, M, h1, _⟩ := h
  exact h1.below
theorem MgAt.later (h : MgAt w0 v mb tb gb us ord N V w) (hb : Below w.heap.size w w') : MgAt w0 v mb tb gb us ord N V w' := by
  obtain ⟨K, L0, X, Y, M, h1, h2⟩ := h
  exact ⟨K, L0, X, Y, M, h1.later hb, h2⟩
theorem MgAt.drew (h : MgAt w0 v mb tb gb us ord N V w) : MgAt w0 v mb tb gb us ord N V w.drew := h.later (Below.refl _ w).drew
theorem MgAt.good (h : MgAt w0 v mb tb gb us ord N V w) : Gd N V := by
  obtain ⟨K, L0, X, Y, M, _, _, _, _, _, _, h1⟩ := h
  exact h1
end
end Go.Proofs.YtkhnkidggcjfeaaGreatDoor
end
