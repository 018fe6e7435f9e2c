/- New, its first loop: units are laid into the graph's map. -/
import Derived.Test.YtnjabanjgckeoaaG14
namespace Go.Proofs.Ytnjabanjgckeoaa
open Go.RowKit
open Go.ChangeMaps (setBlock)
set_option linter.unusedVariables false
set_option linter.unusedSimpArgs false
set_option maxRecDepth 100000

structure St1 (w : World) (g bb bu : Nat) (c : Array Value) (ob : Obj) (us : List GU) (k : Nat) (ou : Obj) (ys : List UV) (wr : World) : Prop where
  own : Own ⟨w, Blk g bb bu c ob ou⟩ wr (rowsAll ys (us.take k))
  like : Like ys (us.take k)
  map : MapO keyN ou (entsU ys)
  once : (namesU (us.take k)).Nodup
theorem St1.usAt {w : World} {g bb bu : Nat} {x y : Value} {ob ou : Obj} {us : List GU} {k : Nat} {ys : List UV} {wr : World} (h : St1 w g bb bu #[.map (some bu), x, y] ob us k ou ys wr) : UsAt wr g bu ys (us.take k) := Blk.us h.own h.like (fun r hr => hr) h.map
theorem St1.later {w : World} {g bb bu : Nat} {c : Array Value} {ob ou : Obj} {us : List GU} {k : Nat} {ys : List UV} {wr w' : World} (h : St1 w g bb bu c ob us k ou ys wr) (hb : Below wr.heap.size wr w') : St1 w g bb bu c ob us k ou ys w' := { h with own := h.own.later hb }
/-- One more unit. -/
theorem St1.add {w : World} {g bb bu : Nat} {c : Array Value} {ob ou : Obj} {us : List GU} {k : Nat} {ys : List UV} {wr w' : World} (h : St1 w g bb bu c ob us k ou ys wr) (hne : g ≠ bu ∧ bb ≠ bu) (hk : k < us.length) {y : UV} (hn : y.name = us[k].name) (hr : y.ret = us[k].ret) (hnew : us[k].name ∉ namesU (us.take k)) (hO : Own wr w' (rows6 y us[k])) :
    ∃ ou', (Instr.mapUpdate 46 (.map (some bu)) (.string (toB us[k].name)) y.val).run Try.prog w' = .ok () (setBlock w' bu ou') ∧ St1 w g bb bu c ob us (k + 1) ou' (ys ++ [y]) (setBlock w' bu ou') := by
  have hj := h.own.join hO
  have hbu : (bu, ou) ∈ Blk g bb bu c ob ou := List.mem_cons_of_mem _ (List.mem_cons_of_mem _ (List.mem_cons_self ..))
  obtain ⟨ou', e1, e2⟩ := h.map.update (P := Try.prog) (kindsN und_str) und_us (hj.at hbu) us[k].name y.val
  have ht : us.take (k + 1) = us.take k ++ [us[k]] := List.take_succ_eq_append_getElem hk
  have hkeys : (entsU ys).map (·.1) = namesU (us.take k) := by
    rw [← h.like.names]; unfold entsU; rw [List.map_map]; rfl
  rw [putG_fresh (by rw [hkeys]; exact hnew)] at e2
  have hS := hj.setB hbu ou'
  have hup : upd (Blk g bb bu c ob ou) bu ou' = Blk g bb bu c ob ou' := by
    simp [upd, Blk, hne.1, hne.2]
  rw [hup] at hS
  refine ⟨ou', e1, ?_, ?_, ?_, ?_⟩
  · rw [ht, rowsAll_snoc _ _ _ _ h.like.len]
    exact hS.perm List.perm_append_comm
  · rw [ht]; exact h.like.snoc hn hr
  · have : entsU (ys ++ [y]) = entsU ys ++ [(us[k].name, y.val)] := by unfold entsU; rw [List.map_append, ← hn]; rfl
    rw [this]; exact e2
  · rw [ht]
    unfold namesU at *
    rw [List.map_append]
    refine List.nodup_append.2 ⟨h.once, by simp, fun a ha b hb => ?_⟩
    have hb' : b = us[k].name := by simpa using hb
    rw [hb']
    exact fun e => hnew (e ▸ ha)
theorem Own.newB_at {w0 w : World} {S : Blocks} {L : List Rw} (h : Own ⟨w0, S⟩ w L) (o : Obj) (b : Nat) (hb : b = w.heap.size) : Own ⟨w0, (b, o) :: S⟩ (w.alloc o) L := hb ▸ h.newB o
theorem cell_setB_ne (W : World) {b c : Nat} (o : Obj) (h : c ≠ b) (j : Nat) : (setBlock W b o).cell? ⟨c, j, none⟩ = W.cell? ⟨c, j, none⟩ := by
  have e : (setBlock W b o).heap[c]? = W.heap[c]? := by simp [setBlock, Ne.symm h]
  unfold World.cell?
  rw [e]
theorem run_mk56 (w : World) : (Instr.makeMap 46 none).run Try.prog w = .ok (.map (some w.heap.size)) (w.alloc (.map #[] 0)) := rfl
theorem run_mk57 (w : World) : (Instr.makeMap 47 none).run Try.prog w = .ok (.map (some w.heap.size)) (w.alloc (.map #[] 0)) := rfl
def NewPost (w : World) (us : List GU) (e : Ending) (w' : World) : Prop := ∃ gv n, e = .returned (.tuple #[gv, .int .i64 (errU us), .string (toB n)]) ∧ Below w.heap.size w w' ∧ (errU us ≠ 0 → gv = .pointer none) ∧ (errU us = 0 → ∃ g, gv = .pointer (some ⟨g, 0, none⟩) ∧ GAt w' g us (ordU us)) ∧ (errU us = 19 → (placeU us).2.head? = some n)
/-- A graph that lies in known blocks and in owned rows. -/
def GIn (S : Blocks) (L : List Rw) (g : Nat) (us : List GU) (ord : List Nm) : Prop := ∀ (W0 : World) (S' : Blocks) (w' : World) (L' : List Rw), (∀ m ∈ S, m ∈ S') → (∀ r ∈ L, r ∈ L') → Own ⟨W0, S'⟩ w' L' → GAt w' g us ord
def NewPost2 (w : World) (us : List GU) (e : Ending) (w' : World) : Prop := ∃ gv n, e = .returned (.tuple #[gv, .int .i64 (errU us), .string (toB n)]) ∧ Below w.heap.size w w' ∧ (errU us ≠ 0 → gv = .pointer none) ∧ (errU us = 0 → ∃ g S L, gv = .pointer (some ⟨g, 0, none⟩) ∧ Own ⟨w, S⟩ w' L ∧ GIn S L g us (ordU us)) ∧ (errU us = 19 → (placeU us).2.head? = some n)
theorem NewPost2.weak {w w' : World} {us : List GU} {e : Ending} (h : NewPost2 w us e w') : NewPost w us e w' := by
  obtain ⟨gv, n, h1, h2, h3, h4, h5⟩ := h
  refine ⟨gv, n, h1, h2, h3, fun h0 => ?_, h5⟩
  obtain ⟨g, S, L, k1, k2, k3⟩ := h4 h0
  exact ⟨g, k1, k3 w S w' L (fun _ h => h) (fun _ h => h) k2⟩
theorem NewPost2.bad {w w' : World} {us : List GU} {x : Int} (hE : errU us = x) (hx : x ≠ 0) {n : Nm} (h19 : x = 19 → (placeU us).2.head? = some n) {nb : ByteArray} (hn : toB n = nb) (hb : Below w.heap.size w w') : NewPost2 w us (.returned (.tuple #[.pointer none, .int .i64 x, .string nb])) w' := by
  subst hE hn
  exact ⟨_, n, rfl, hb, fun _ => rfl, fun h => absurd h hx, h19⟩
theorem NewPost2.good {w w' : World} {us : List GU} (hE : errU us = 0) {g : Nat} {S : Blocks} {L : List Rw} (hO : Own ⟨w, S⟩ w' L) (hg : GIn S L g us (ordU us)) (hb : Below w.heap.size w w') : NewPost2 w us (.returned (.tuple #[.pointer (some ⟨g, 0, none⟩), .int .i64 0, .string ⟨#[]⟩])) w' := by
  refine ⟨_, [], by rw [hE], hb, fun h => absurd hE h, fun _ => ⟨g, S, L, rfl, hO, hg⟩, fun h => by rw [hE] at h; cases h⟩
structure St2 (w : World) (g bb bu : Nat) (c : Array Value) (ou : Obj) (us : List GU) (ys : List UV) (vN : Value) (names : List Nm) (j : Nat) (ob : Obj) (zs : List Value) (wr : World) : Prop where
  own : Own ⟨w, Blk g bb bu c ob ou⟩ wr (rowSs vN names :: (rowsB us zs (names.take j) ++ rowsAll ys us))
  len : zs.length = (names.take j).length
  map : MapO keyN ob (entsB zs (names.take j))
theorem St2.add {w : World} {g bb bu : Nat} {c : Array Value} {ob ou : Obj} {us : List GU} {ys : List UV} {vN : Value} {names : List Nm} {j : Nat} {zs : List Value} {wr w' : World} (h : St2 w g bb bu c ou us ys vN names j ob zs wr) (hne : g ≠ bb ∧ bu ≠ bb) (hd : names.Nodup) (hj : j < names.length) {z : Value} (hO : Own wr w' [rowSs z (aheadU us names[j])]) :
    ∃ ob', (Instr.mapUpdate 47 (.map (some bb)) (.string (toB names[j])) z).run Try.prog w' = .ok () (setBlock w' bb ob') ∧ St2 w g bb bu c ou us ys vN names (j + 1) ob' (zs ++ [z]) (setBlock w' bb ob') := by
  have hjn := h.own.join hO
  have hbb : (bb, ob) ∈ Blk g bb bu c ob ou := List.mem_cons_of_mem _ (List.mem_cons_self ..)
  obtain ⟨ob', e1, e2⟩ := h.map.update (P := Try.prog) (kindsN und_str) und_be (hjn.at hbb) names[j] z
  have ht : names.take (j + 1) = names.take j ++ [names[j]] := List.take_succ_eq_append_getElem hj
  have hnew : names[j] ∉ names.take j := by
    have h2 : (names.take (j + 1)).Nodup := hd.sublist (List.take_sublist _ _)
    rw [ht] at h2
    intro hm
    exact (List.nodup_append.1 h2).2.2 _ hm names[j] (List.mem_singleton.2 rfl) rfl
  rw [putG_fresh (by rw [entsB_keys h.len]; exact hnew)] at e2
  have hS := hjn.setB hbb ob'
  have hup : upd (Blk g bb bu c ob ou) bb ob' = Blk g bb bu c ob' ou := by
    simp [upd, Blk, hne.1, hne.2]
  rw [hup] at hS
  refine ⟨ob', e1, ?_, ?_, ?_⟩
  · rw [ht, rowsB_snoc _ _ _ _ _ h.len]
    refine hS.perm ?_
    show List.Perm (rowSs z (aheadU us names[j]) :: rowSs vN names :: (rowsB us zs (names.take j) ++ rowsAll ys us)) (rowSs vN names :: (rowsB us zs (names.take j) ++ [rowSs z (aheadU us names[j])] ++ rowsAll ys us))
    refine (List.Perm.swap _ _ _).trans (List.Perm.cons _ ?_)
    rw [List.append_assoc]
    exact List.perm_middle.symm
  · rw [ht, List.length_append, List.length_append, h.len]; rfl
  · rw [ht, entsB_snoc h.len]; exact e2
theorem BeAt.keys {w : World} {g bb : Nat} {ks ks' : List Nm} {beh : Nm → List Nm} (h : BeAt w g bb ks beh) (hk : ∀ x, x ∈ ks ↔ x ∈ ks') : BeAt w g bb ks' beh := by
  obtain ⟨o, mb, h1, h2, h3, h4⟩ := h.map
  exact ⟨h.cell, o, mb, h1, h2, fun n hn => h3 n ((hk n).2 hn), fun n hn => h4 n fun h => hn ((hk n).1 h)⟩
set_option maxHeartbeats 16000000 in
theorem new_any2 {w : World} {v : Value} {us : List GU} (h : UArg w v us) (hlen : us.length ≤ 1000000) (hs : ∀ n ∈ namesU us, n.length ≤ 1000000) (hb : ∀ u ∈ us, Bnd u) :
    Calls Try.prog 6 #[v] w (NewPost2 w us) := by
  obtain ⟨a, c, xs, rfl, hU, hr⟩ := h
  have hn : (us.length : Int) ≤ 1000000 := by omega
  by_cases hmany : 16 < us.length
  · have he : errU us = 22 := by unfold errU; rw [if_pos hmany]
    have hmi : (16 : Int) < (us.length : Int) := by omega
    clear hU hr hb hs hmany
    go_enter Try.func6, Try.ntmps6
    go_wp2_with fail
    go_ret3
    exact NewPost2.bad he (by decide) (n := []) (fun h => by cases h) rfl (Below.refl _ _)
  have hfew : us.length ≤ 16 := by omega
  have m1 := run_mk56
  have m2 := run_mk57
  have O1 := ((Own.start w).newB_at (.map #[] 0) w.heap.size rfl).newB_at (.map #[] 0) (w.heap.size + 1) (by simp)
  have O2 := O1.newB_at (.cells #[.map (some w.heap.size), .map (some (w.heap.size + 1)), .slice none 0 0] 49) (w.heap.size + 1 + 1) (by simp)
  have hne1 : w.heap.size + 1 + 1 ≠ w.heap.size ∧ w.heap.size + 1 ≠ w.heap.size := ⟨by omega, by omega⟩
  have HST := Lib.hid (show St1 w (w.heap.size + 1 + 1) (w.heap.size + 1) w.heap.size #[.map (some w.heap.size), .map (some (w.heap.size + 1)), .slice none 0 0] (.map #[] 0) us 0 (.map #[] 0) [] _ from ⟨O2, .nil, MapO.empty _, List.nodup_nil⟩)
  have hgb : w.heap.size + 1 + 1 ≠ w.heap.size + 1 := by omega
  have HNE := Lib.hid hne1
  have HGB := Lib.hid hgb
  have HU := Lib.hid hU
  have HR := Lib.hid hr
  have HS := Lib.hid hs
  have HB := Lib.hid hb
  have HF := Lib.hid hfew
  have hfi : (us.length : Int) ≤ 16 := by omega
  clear O1 O2 hne1 hgb hU hr hs hb hmany hfew hlen
  go_enter Try.func6, Try.ntmps6
  go_upto_region 4 with fail
  generalize hbu : w.heap.size = bu at *
  have HBU := Lib.hid hbu
  clear hbu m1 m2
  obtain ⟨W3, hW3⟩ : ∃ W3 : World, W3 = ((w.alloc (.map #[] 0)).alloc (.map #[] 0)).alloc (.cells #[.map (some bu), .map (some (bu + 1)), .slice none 0 0] 49) := ⟨_, rfl⟩
  rw [← hW3] at HST ⊢
  clear hW3
  go_wp2_with fail
  go_loopw [22] (fun s wr => ∃ k ou ys, k ≤ us.length ∧ s = .int .i64 (k : Nat) ∧ St1 w (bu + 1 + 1) (bu + 1) bu #[.map (some bu), .map (some (bu + 1)), .slice none 0 0] (.map #[] 0) us k ou ys wr) (fun s _ => us.length - (intOf s).toNat)
  case atStart => exact ⟨0, _, _, Nat.zero_le _, rfl, HST.out⟩
  case round =>
    obtain ⟨k, ou, ys, hk, rfl, h1⟩ := hrel
    by_cases hlt : k < us.length
    · have hkx : k < xs.length := by rw [HU.out.len]; exact hlt
      obtain ⟨⟨b, o, rfl, hrg⟩, _⟩ := HR.out k hkx
      have hbw := h1.own.below
      have hUk := HU.out.at k hkx hlt
      have hrg2 : wr.rangeAt b (o + k * 8) xs[k].cells := fun j u hj => by
        have h2 := hrg j u hj
        exact (hbw.cell (p := ⟨b, o + k * 8 + j, none⟩) (World.block_lt_of_cell? w ⟨b, o + k * 8 + j, none⟩ h2)).trans h2
      have hnm : us[k].name ∈ namesU us := mem_names.2 ⟨us[k], List.getElem_mem hlt, rfl⟩
      have hBnd := HB.out us[k] (List.getElem_mem hlt)
      have H1 := Lib.hid h1
      have HBB := Lib.hid (show wr.heap.size ≠ bu from Nat.ne_of_gt (h1.own.atLt (b := bu) (o := ou) (List.mem_cons_of_mem _ (List.mem_cons_of_mem _ (List.mem_cons_self ..)))).2)
      have HUk := Lib.hid (hUk.later hbw)
      have Hone := Lib.hid hUk.one
      have hcsp : (Try.prog.info? 44).map (·.size) = some xs[k].cells.length := info_uv
      have h8 := Lib.hid (show (8 : Nat) = xs[k].cells.length from rfl)
      have D0 := Lib.hid (show xs[k].cells[0]? = some (.string (toB xs[k].name)) from rfl)
      have HX := Lib.hid (show xs[k].val = .agg xs[k].cells.toArray from rfl)
      have HBnd := Lib.hid hBnd
      have hklt : (k : Int) < (us.length : Int) := by omega
      have hname : xs[k].name = us[k].name := hUk.name
      clear h1 hrg hbw hUk hnm hBnd hk
      generalize hxx : xs[k] = X at *
      generalize hpc : X.cells = pcs at *
      go_upto_region 7 with (first
        | (refine wpList_load_mid rfl 44 (.tmp 24) rfl b (o + k * 8) rfl pcs _ hrg2 Try.underlying44 rfl hcsp ?_)
        | (refine wpList_store_new rfl 44 (.tmp 7) (.tmp 25) rfl H1.out.own pcs wr.heap.size rfl rfl rfl h8.out hcsp Hone.out ?_))
      intro w3 hO3 _
      have h3 : St1 w (bu + 1 + 1) (bu + 1) bu #[.map (some bu), .map (some (bu + 1)), .slice none 0 0] (.map #[] 0) us k ou ys w3 := { H1.out with own := hO3.tail }
      have c0 : w3.cell? ⟨wr.heap.size, 0, none⟩ = some (.string (toB X.name)) := by
        rw [hO3.cell 0 (by rw [← h8.out]; decide)]; exact D0.out
      have rb : w3.rangeAt wr.heap.size 0 pcs := by
        have := hO3.range 0 8
        rw [List.drop_zero, List.take_of_length_le (by rw [← h8.out]; exact Nat.le_refl _)] at this
        exact this
      have kh := has_any h3.usAt X.name
      have hUw3 : UVIs w3 X us[k] := by
        have q := HU.out.at k hkx hlt
        rw [hxx] at q
        exact q.later h3.own.below
      have H3 := Lib.hid h3
      have HU3 := Lib.hid hUw3
      have RB := Lib.hid rb
      have C0 := Lib.hid c0
      have Hname := Lib.hid hname
      have hb7 := Lib.hid (World.block_lt_of_cell? w3 ⟨wr.heap.size, 0, none⟩ c0)
      clear h3 hO3 hUw3 rb hname hxx
      generalize wr.heap.size = b7 at *
      generalize hxn : toB X.name = nb at *
      have HXN := Lib.hid hxn
      clear hxn
      by_cases hin : X.name ∈ namesU (us.take k)
      · rw [decide_eq_true hin] at kh
        have HE : Hid (errU us = 9) := by
          have hnd : ¬ (namesU us).Nodup := fun hd => by
            have h1 : us = us.take k ++ us[k] :: us.drop (k + 1) := by rw [← List.drop_eq_getElem_cons hlt, List.take_append_drop]
            rw [h1] at hd
            unfold namesU at hd hin
            rw [List.map_append, List.map_cons] at hd
            exact (List.nodup_append.1 hd).2.2 _ hin us[k].name (List.mem_cons_self ..) Hname.out
          show errU us = 9
          unfold errU
          rw [if_neg (by have := HF.out; omega), if_pos hnd]
        clear hin
        go_wp2_with (go_at_call 17; refine kh.mono ?_; rintro e w4 ⟨rfl, hb4⟩; have c04 := (hb4.cell (p := ⟨b7, 0, none⟩) hb7.out).trans c0; have HB4 := Lib.hid hb4; clear hb4 c0)
        go_quiet (fail)
        go_wp2_with fail
        go_ret3
        exact NewPost2.bad HE.out (by decide) (n := X.name) (fun h => by cases h) HXN.out (H3.out.later HB4.out).own.drewN.below
      · rw [decide_eq_false hin] at kh
        have Hin := Lib.hid hin
        clear hin
        go_wp2_with (go_at_call 17; refine kh.mono ?_; rintro e w4 ⟨rfl, hb4⟩; have c04 := (hb4.cell (p := ⟨b7, 0, none⟩) hb7.out).trans c0; have HB4 := Lib.hid hb4; clear hb4 c0)
        have cg := (H3.out.later HB4.out).usAt.cell
        have rb4 : w4.rangeAt b7 0 pcs := fun j u hj => by
          have h2 := RB.out j u hj
          exact (HB4.out.cell (p := ⟨b7, 0 + j, none⟩) (World.block_lt_of_cell? w3 ⟨b7, 0 + j, none⟩ h2)).trans h2
        have hb74 := lt_of_heap (w := w4) (k := b7) (o := (w4.heap[b7]'(World.block_lt_of_cell? w4 ⟨b7, 0, none⟩ c04))) (Array.getElem?_eq_getElem _)
        have e8 := hpc.symm
        unfold UV.cells at e8
        rw [HXN.out] at e8
        have KA := Lib.hid (fun W (hb : Below w4.heap.size w4 W) => apart_any W X us[k] ((HU3.out.later HB4.out).later hb) HBnd.out)
        have HADD := Lib.hid (fun W (hb : Below w4.heap.size w4 W) w5 (y : UV) (h1 : y.name = us[k].name) (h2 : y.ret = us[k].ret) (hO : Own W w5 (rows6 y us[k])) => ((H3.out.later HB4.out).later hb).add HNE.out hlt h1 h2 (by rw [← Hname.out]; exact Hin.out) hO)
        have hxv : X.val = .agg #[.string nb, X.v1, X.v2, X.v3, X.v4, X.v5, X.v6, .int .i64 X.ret] := by rw [← HXN.out]; rfl
        rw [hxv] at KA
        rw [show toB us[k].name = nb from by rw [← Hname.out]; exact HXN.out] at HADD
        clear hpc HX hxv
        generalize X.v1 = y1 at *
        generalize X.v2 = y2 at *
        generalize X.v3 = y3 at *
        generalize X.v4 = y4 at *
        generalize X.v5 = y5 at *
        generalize X.v6 = y6 at *
        generalize X.ret = yr at *
        have HS8 := Lib.hid (fun (W : World) (hb : Below w4.heap.size w4 W) => (show W.cell? ⟨bu + 1 + 1, 0, none⟩ = some (.map (some bu)) ∧ W.cell? ⟨b7, 0, none⟩ = some (.string nb) ∧ W.cell? ⟨b7, 1, none⟩ = some y1 ∧ W.cell? ⟨b7, 2, none⟩ = some y2 ∧ W.cell? ⟨b7, 3, none⟩ = some y3 ∧ W.cell? ⟨b7, 4, none⟩ = some y4 ∧ W.cell? ⟨b7, 5, none⟩ = some y5 ∧ W.cell? ⟨b7, 6, none⟩ = some y6 ∧ W.cell? ⟨b7, 7, none⟩ = some (.int .i64 yr) from by
          have q := fun j u (hj : pcs[j]? = some u) => (hb.cell (p := ⟨b7, 0 + j, none⟩) hb74).trans (rb4 j u hj)
          simp only [Nat.zero_add] at q
          rw [e8] at q
          exact ⟨(hb.cell (p := ⟨bu + 1 + 1, 0, none⟩) (World.block_lt_of_cell? w4 ⟨bu + 1 + 1, 0, none⟩ cg)).trans cg, q 0 _ rfl, q 1 _ rfl, q 2 _ rfl, q 3 _ rfl, q 4 _ rfl, q 5 _ rfl, q 6 _ rfl, q 7 _ rfl⟩))
        have HS9 := Lib.hid (fun (W : World) (o9 : Obj) (hb : Below w4.heap.size w4 W) => (show (setBlock W bu o9).cell? ⟨bu + 1 + 1, 0, none⟩ = some (.map (some bu)) ∧ (setBlock W bu o9).cell? ⟨b7, 0, none⟩ = some (.string nb) ∧ (setBlock W bu o9).cell? ⟨b7, 1, none⟩ = some y1 ∧ (setBlock W bu o9).cell? ⟨b7, 2, none⟩ = some y2 ∧ (setBlock W bu o9).cell? ⟨b7, 3, none⟩ = some y3 ∧ (setBlock W bu o9).cell? ⟨b7, 4, none⟩ = some y4 ∧ (setBlock W bu o9).cell? ⟨b7, 5, none⟩ = some y5 ∧ (setBlock W bu o9).cell? ⟨b7, 6, none⟩ = some y6 ∧ (setBlock W bu o9).cell? ⟨b7, 7, none⟩ = some (.int .i64 yr) from by
          obtain ⟨q0, q1, q2, q3, q4, q5, q6, q7, q8⟩ := HS8.out W hb
          have n1 := cell_setB_ne W o9 HNE.out.1
          have n2 := cell_setB_ne W o9 HBB.out
          exact ⟨(n1 _).trans q0, (n2 _).trans q1, (n2 _).trans q2, (n2 _).trans q3, (n2 _).trans q4, (n2 _).trans q5, (n2 _).trans q6, (n2 _).trans q7, (n2 _).trans q8⟩))
        have hS8 := HS8.out w4 (Below.refl _ _)
        clear rb4 c04 cg e8
        go_region_held3 (fun W : World => W.cell? ⟨bu + 1 + 1, 0, none⟩ = some (.map (some bu)) ∧ W.cell? ⟨b7, 0, none⟩ = some (.string nb) ∧ W.cell? ⟨b7, 1, none⟩ = some y1 ∧ W.cell? ⟨b7, 2, none⟩ = some y2 ∧ W.cell? ⟨b7, 3, none⟩ = some y3 ∧ W.cell? ⟨b7, 4, none⟩ = some y4 ∧ W.cell? ⟨b7, 5, none⟩ = some y5 ∧ W.cell? ⟨b7, 6, none⟩ = some y6 ∧ W.cell? ⟨b7, 7, none⟩ = some (.int .i64 yr)) (first | exact hS8 | exact HS8.out _ (Below.refl _ _) | exact HS8.out _ (Below.refl _ _).drew | exact HS8.out _ hb5 | exact HS9.out _ _ hb5 | exact HS9.out _ _ hb5.drew | exact HS8.out _ hb5.drew) (first | (go_at_call 18; refine (KA.out _ ?_).mono ?_; (first | exact Below.refl _ _ | exact (Below.refl _ _).drew); rintro e w5 ⟨y, rfl, hy1, hy2, hO5⟩; have hb5 : Below w4.heap.size w4 w5 := (by first | exact (Below.refl _ _).trans hO5.below | exact ((Below.refl _ _).drew).trans hO5.below); obtain ⟨ou5, hup5, hst5⟩ := HADD.out _ (by first | exact Below.refl _ _ | exact (Below.refl _ _).drew) w5 y hy1 hy2 hO5; obtain ⟨ou6, hup6, hst6⟩ := HADD.out _ (by first | exact Below.refl _ _ | exact (Below.refl _ _).drew) w5.drew y hy1 hy2 hO5.drew; have HST5 := Lib.hid hst5; have HST6 := Lib.hid hst6; clear hst5 hst6 hO5))
        go_wp2_with fail
        go_roundw
        case rel => exact ⟨k + 1, _, _, by omega, by go_num, by first | exact HST5.out | exact HST6.out⟩
        case measure => simp [intOf]; omega
    · obtain rfl : k = us.length := by omega
      have hown := h1.own
      have hlike := h1.like
      have honce := h1.once
      have hmap := h1.map
      rw [List.take_length] at hown hlike honce
      have hus : UsAt wr (bu + 1 + 1) bu ys us := Blk.us hown hlike (fun r hr => hr) hmap
      have kn := names_any hus honce (by have := HF.out; omega) HS.out
      have hnl : (sortN (namesU us)).length = us.length := by rw [sortN_length]; simp [namesU]
      have hnd : (sortN (namesU us)).Nodup := sortN_nodup.2 honce
      have HOwn := Lib.hid hown
      have HLike := Lib.hid hlike
      have HOnce := Lib.hid honce
      have HMap := Lib.hid hmap
      have HNL := Lib.hid hnl
      have HND := Lib.hid hnd
      have HBad := Lib.hid (show badU us = (sortN (namesU us)).any (lacksU us) from rfl)
      clear h1 hown hlike honce hmap hus hlt hk hnl hnd
      go_upto_region 12 with (go_at_call 19; refine kn.mono ?_; rintro e w4 ⟨vN, rfl, hO4⟩; have HO4 := Lib.hid hO4; clear hO4)
      have hO5 : Own ⟨w, Blk (bu + 1 + 1) (bu + 1) bu #[.map (some bu), .map (some (bu + 1)), .slice none 0 0] (.map #[] 0) ou⟩ w4 (rowSs vN (sortN (namesU us)) :: rowsAll ys us) := HOwn.out.join HO4.out
      obtain ⟨an, nn, cn, hvN⟩ := hO5.sts.shape
      have hvN' : vN = .slice an nn cn := hvN
      subst hvN'
      have hnn : nn = (sortN (namesU us)).length := by
        obtain ⟨a', c', e', _⟩ := hO5.sts
        injection e'
      have hus4 : UsAt w4 (bu + 1 + 1) bu ys us := Blk.us hO5 HLike.out (fun r hr => List.mem_cons_of_mem _ hr) HMap.out
      have ki := index_bd 21 (.pointer (some ⟨bu + 1 + 1, 0, none⟩)) (lacksU us) (enters_of Try.func21 (by kernel_rfl) rfl) (.slice an nn cn) _ w4 hO5.sts (fun W x _ hb => lacks_any (hus4.later hb) x)
      have HO5 := Lib.hid hO5
      have Hnn := Lib.hid hnn
      clear hO5 hvN hnn hus4 kn
      rcases idxF_cases (lacksU us) (sortN (namesU us)) with ⟨e1, e2, e3⟩ | ⟨k, hk, e1, e2, e3, _⟩
      · rw [e2] at ki
        have HE3 := Lib.hid (show badU us = false from by rw [HBad.out]; exact List.any_eq_false.2 fun x hx => by rw [e3 x hx]; simp)
        clear e1 e2 e3
        have hst2 : St2 w (bu + 1 + 1) (bu + 1) bu #[.map (some bu), .map (some (bu + 1)), .slice none 0 0] ou us ys (.slice an nn cn) (sortN (namesU us)) 0 (.map #[] 0) [] w4 := ⟨HO5.out, rfl, MapO.empty _⟩
        have HI := Lib.hid (fun w6 (hb : Below w4.heap.size w4 w6) => (show St2 w (bu + 1 + 1) (bu + 1) bu #[.map (some bu), .map (some (bu + 1)), .slice none 0 0] ou us ys (.slice an nn cn) (sortN (namesU us)) 0 (.map #[] 0) [] w6 from ⟨HO5.out.later hb, rfl, MapO.empty _⟩))
        clear hst2
        go_wp2_with (go_at_call 20; refine ki.mono ?_; rintro e w6 ⟨rfl, hb6⟩; have HI6 := Lib.hid (HI.out w6 hb6); clear hb6)
        generalize hnames : sortN (namesU us) = names at *
        have HNAMES := Lib.hid hnames
        clear hnames ki HI
        have hnsm : (nn : Int) ≤ 16 := by have h1 := Hnn.out; have h2 := HNL.out; have h3 := HF.out; omega
        go_loopw [55] (fun s wr => ∃ j ob zs, j ≤ nn ∧ s = .int .i64 (j : Nat) ∧ St2 w (bu + 1 + 1) (bu + 1) bu #[.map (some bu), .map (some (bu + 1)), .slice none 0 0] ou us ys (.slice an nn cn) names j ob zs wr) (fun s _ => nn - (intOf s).toNat)
        case atStart => exact ⟨0, _, _, Nat.zero_le _, rfl, HI6.out⟩
        case round =>
          obtain ⟨j, ob, zs, hj, rfl, h2⟩ := hrel
          by_cases hlt : j < nn
          · have hjl : j < names.length := by rw [← Hnn.out]; exact hlt
            obtain ⟨gn, hform⟩ : ∃ gn, an = some ⟨gn, 0, none⟩ := by
              obtain ⟨gn, cap, e, _⟩ := h2.own.form (by omega)
              injection e with e _ _
              exact ⟨gn, e⟩
            subst hform
            have ck : wr.cell? ⟨gn, j, none⟩ = some (.string (toB names[j])) := by
              have h5 := h2.own
              rw [Hnn.out] at h5
              exact Own.str h5 j hjl
            have hbz : bu + 1 + 1 ≠ bu + 1 ∧ bu ≠ bu + 1 := ⟨by omega, by omega⟩
            have KA := Lib.hid (fun W (hb : Below wr.heap.size wr W) => ahead_any (Blk.us (h2.own.later hb) HLike.out (fun r hr => List.mem_cons_of_mem _ (List.mem_append_right _ hr)) HMap.out) HOnce.out (by have := HF.out; omega) names[j])
            have HADD := Lib.hid (fun W (hb : Below wr.heap.size wr W) w5 (z : Value) (hO : Own W w5 [rowSs z (aheadU us names[j])]) => (show St2 w (bu + 1 + 1) (bu + 1) bu #[.map (some bu), .map (some (bu + 1)), .slice none 0 0] ou us ys (.slice (some ⟨gn, 0, none⟩) nn cn) names j ob zs W from { h2 with own := h2.own.later hb }).add hbz HND.out hjl hO)
            have hcg : ∀ W, Below wr.heap.size wr W → W.cell? ⟨bu + 1 + 1, 1, none⟩ = some (.map (some (bu + 1))) := fun W hb => by
              rw [(h2.own.later hb).cellB (b := bu + 1 + 1) (List.mem_cons_self ..)]; rfl
            have HCG := Lib.hid hcg
            have HCG2 := Lib.hid (fun (W : World) (o9 : Obj) (hb : Below wr.heap.size wr W) => (show (setBlock W (bu + 1) o9).cell? ⟨bu + 1 + 1, 1, none⟩ = some (.map (some (bu + 1))) from (cell_setB_ne W o9 hbz.1 1).trans (hcg W hb)))
            have hS8 := hcg wr (Below.refl _ _)
            clear h2 hcg hbz
            generalize names[j] = nm at *
            generalize toB nm = nmb at *
            go_upto_region 18 with fail
            go_region_held3 (fun W : World => W.cell? ⟨bu + 1 + 1, 1, none⟩ = some (.map (some (bu + 1)))) (first | exact hS8 | exact HCG.out _ (Below.refl _ _) | exact HCG.out _ (Below.refl _ _).drew | exact HCG.out _ hb5 | exact HCG.out _ hb5.drew | exact HCG2.out _ _ hb5 | exact HCG2.out _ _ hb5.drew) (first | (go_at_call 22; refine (KA.out _ ?_).mono ?_; (first | exact Below.refl _ _ | exact (Below.refl _ _).drew); rintro e w5 ⟨z, rfl, hO5⟩; have hb5 : Below wr.heap.size wr w5 := (by first | exact (Below.refl _ _).trans hO5.below | exact ((Below.refl _ _).drew).trans hO5.below); obtain ⟨ob5, hup5, hst5⟩ := HADD.out _ (by first | exact Below.refl _ _ | exact (Below.refl _ _).drew) w5 z hO5; obtain ⟨ob6, hup6, hst6⟩ := HADD.out _ (by first | exact Below.refl _ _ | exact (Below.refl _ _).drew) w5.drew z hO5.drew; have HST5 := Lib.hid hst5; have HST6 := Lib.hid hst6; clear hst5 hst6 hO5))
            go_wp2_with fail
            go_roundw
            case rel => exact ⟨j + 1, _, _, by omega, by go_num, by first | exact HST5.out | exact HST6.out⟩
            case measure => simp [intOf]; omega
          · obtain rfl : j = nn := by omega
            have hown := h2.own
            have hlen2 := h2.len
            have hmap2 := h2.map
            rw [Hnn.out, List.take_length] at hown hlen2 hmap2
            have hBE : ∀ w', Own ⟨w, Blk (bu + 1 + 1) (bu + 1) bu #[.map (some bu), .map (some (bu + 1)), .slice none 0 0] ob ou⟩ w' (rowsB us zs names ++ rowsAll ys us) → BeAt w' (bu + 1 + 1) (bu + 1) names (aheadU us) := fun w' h => Blk.be h hlen2 (fun r hr => List.mem_append_left _ hr) hmap2
            have kp := placeG_any hown hBE (fun x hx => hx) (by have h2 := HNL.out; have h3 := HF.out; omega)
            have hplu : placeN (aheadU us) names.length [] names = placeU us := by
              unfold placeU; rw [HNAMES.out, HNL.out]
            rw [hplu, ← Hnn.out] at kp
            have HLEN2 := Lib.hid hlen2
            have HMAP2 := Lib.hid hmap2
            clear h2 hown hlen2 hmap2 hBE hplu hlt hj
            go_upto_region 22 with (go_at_call 23; refine kp.mono ?_; rintro e w6 ⟨v1, v2, rfl, hO6⟩; obtain ⟨p1, m1, c1, hv1⟩ := hO6.sts.shape; subst hv1; obtain ⟨p2, m2, c2, hv2⟩ := hO6.swap.sts.shape; subst hv2; have cg6 : w6.cell? ⟨bu + 1 + 1, 2, none⟩ = some (.slice none 0 0) := (by rw [hO6.cellB (b := bu + 1 + 1) (List.mem_cons_self ..)]; rfl); have fg6 := free_at (hO6.at (b := bu + 1 + 1) (List.mem_cons_self ..)) 2; have HO6 := Lib.hid hO6; clear hO6)
            have hO7 : Own ⟨w, Blk (bu + 1 + 1) (bu + 1) bu #[.map (some bu), .map (some (bu + 1)), .slice p1 m1 c1] ob ou⟩ (w6.setCell ⟨bu + 1 + 1, 2, none⟩ (.slice p1 m1 c1)) (rowSs (.slice p1 m1 c1) (placeU us).1 :: rowSs (.slice p2 m2 c2) (placeU us).2 :: (rowsB us zs names ++ rowsAll ys us)) := by
              have h9 := HO6.out.storeB (b := bu + 1 + 1) (List.mem_cons_self ..) 2 (.slice p1 m1 c1)
              have hup : upd (Blk (bu + 1 + 1) (bu + 1) bu #[.map (some bu), .map (some (bu + 1)), .slice none 0 0] ob ou) (bu + 1 + 1) (.cells (#[Value.map (some bu), .map (some (bu + 1)), .slice none 0 0].setIfInBounds 2 (.slice p1 m1 c1)) 49) = Blk (bu + 1 + 1) (bu + 1) bu #[.map (some bu), .map (some (bu + 1)), .slice p1 m1 c1] ob ou := by
                simp [upd, Blk]
                omega
              rw [hup] at h9
              exact h9
            have HO7 := Lib.hid hO7
            clear hO7 cg6 fg6
            generalize w6.setCell ⟨bu + 1 + 1, 2, none⟩ (.slice p1 m1 c1) = w7 at *
            have hm2 : m2 = (placeU us).2.length := by
              obtain ⟨a', c', e', _⟩ := HO7.out.swap.sts
              injection e'
            have hE0 : errU us = if (placeU us).2 ≠ [] then 19 else 0 := by
              unfold errU
              rw [if_neg (by have := HF.out; omega), if_neg (by rw [Decidable.not_not]; exact HOnce.out), if_neg (by rw [HE3.out]; decide)]
            by_cases hleft : (placeU us).2 = []
            · have HE : Hid (errU us = 0) := by
                show errU us = 0
                rw [hE0, if_neg (by rw [hleft]; simp)]
              have hz : m2 = 0 := by rw [hm2, hleft]; rfl
              subst hz
              have HG : Hid (GIn (Blk (bu + 1 + 1) (bu + 1) bu #[.map (some bu), .map (some (bu + 1)), .slice p1 m1 c1] ob ou) (rowSs (.slice p1 m1 c1) (placeU us).1 :: rowSs (.slice p2 0 c2) (placeU us).2 :: (rowsB us zs names ++ rowsAll ys us)) (bu + 1 + 1) us (ordU us)) := by
                have hperm := ordU_perm HE.out
                intro W0 S' w9 L' hS' hL' hO9'
                have hO9 := hO9'.forget (S' := Blk (bu + 1 + 1) (bu + 1) bu #[.map (some bu), .map (some (bu + 1)), .slice p1 m1 c1] ob ou) hS'
                refine ⟨⟨bu, ys, Blk.us hO9 HLike.out (fun r hr => hL' r (List.mem_cons_of_mem _ (List.mem_cons_of_mem _ (List.mem_append_right _ hr)))) HMap.out⟩, ⟨bu + 1, BeAt.keys (Blk.be hO9 HLEN2.out (fun r hr => hL' r (List.mem_cons_of_mem _ (List.mem_cons_of_mem _ (List.mem_append_left _ hr)))) HMAP2.out) fun x => by rw [← HNAMES.out]; exact mem_sortN⟩, ⟨_, by rw [hO9.cellB (b := bu + 1 + 1) (List.mem_cons_self ..)]; rfl, hO9.stsMem (hL' _ (List.mem_cons_self ..))⟩, HOnce.out, by have := HF.out; omega, HS.out, HB.out, ?_, hperm, ?_⟩
                · rw [hperm.length_eq]
                  have := HF.out
                  simp [namesU]; omega
                · intro u hu y hy
                  have h1 := List.any_eq_false.1 (HBad.out ▸ HE3.out) u.name (by rw [← HNAMES.out]; exact mem_sortN.2 (mem_names.2 ⟨u, hu, rfl⟩))
                  unfold lacksU at h1
                  rw [findU_mem HOnce.out hu] at h1
                  simp only [Bool.or_eq_true, List.any_eq_true, Bool.not_eq_true', decide_eq_false_iff_not, not_or, not_exists, not_and, Decidable.not_not] at h1
                  exact hy.elim (h1.1 y) (h1.2 y)
              have HBl := Lib.hid HO7.out.below
              clear hE0 hleft hm2 kp
              go_wp2_with fail
              go_ret3
              exact NewPost2.good HE.out HO7.out HG.out HBl.out
            · have HE : Hid (errU us = 19) := by
                show errU us = 19
                rw [hE0, if_pos hleft]
              obtain ⟨n0, r0, hl0⟩ : ∃ n0 r0, (placeU us).2 = n0 :: r0 := by
                cases h : (placeU us).2 with
                | nil => exact absurd h hleft
                | cons x r => exact ⟨x, r, rfl⟩
              have hpos : 0 < m2 := by rw [hm2, hl0]; simp
              obtain ⟨g2, hform⟩ : ∃ g2, p2 = some ⟨g2, 0, none⟩ := by
                obtain ⟨g2, cap, e, _⟩ := HO7.out.swap.form (by rw [hl0]; simp)
                injection e with e _ _
                exact ⟨g2, e⟩
              subst hform
              have c0 : w7.cell? ⟨g2, 0, none⟩ = some (.string (toB n0)) := by
                have h5 := HO7.out.swap
                rw [hm2] at h5
                have := Own.str h5 0 (by rw [hl0]; simp)
                simpa [hl0] using this
              have hposi : (0 : Int) < (m2 : Int) := by omega
              have HH := Lib.hid (show (placeU us).2.head? = some n0 from by rw [hl0]; rfl)
              clear hE0 hleft hl0 hm2 kp hpos
              go_wp2_with fail
              go_quiet (fail)
              go_wp2_with fail
              go_ret3
              exact NewPost2.bad HE.out (by decide) (n := n0) (fun _ => HH.out) rfl HO7.out.drewN.below
      · rw [e2] at ki
        have HE3 := Lib.hid (show badU us = true from by rw [HBad.out]; exact List.any_eq_true.2 ⟨_, List.getElem_mem hk, e3⟩)
        have HE : Hid (errU us = 16) := by
          show errU us = 16
          unfold errU
          rw [if_neg (by have := HF.out; omega), if_neg (by rw [Decidable.not_not]; exact HOnce.out), if_pos HE3.out]
        have hk0 : (0 : Int) ≤ (k : Int) := by omega
        have hkn : (k : Int) < (nn : Int) := by rw [Hnn.out]; omega
        obtain ⟨gn, hform⟩ : ∃ gn, an = some ⟨gn, 0, none⟩ := by
          obtain ⟨gn, cap, e, _⟩ := HO5.out.form (by omega)
          injection e with e _ _
          exact ⟨gn, e⟩
        subst hform
        have ck : w4.cell? ⟨gn, k, none⟩ = some (.string (toB (sortN (namesU us))[k])) := by
          have h5 := HO5.out
          rw [Hnn.out] at h5
          exact Own.str h5 k hk
        have hlt9 := Lib.hid (World.block_lt_of_cell? w4 ⟨gn, k, none⟩ ck)
        clear e1 e2 e3
        generalize (sortN (namesU us))[k] = nm at *
        go_wp2_with (go_at_call 20; refine ki.mono ?_; rintro e w6 ⟨rfl, hb6⟩; have ck6 := (hb6.cell (p := ⟨gn, k, none⟩) hlt9.out).trans ck; have HB6 := Lib.hid hb6; clear hb6 ck)
        go_quiet (fail)
        go_wp2_with fail
        go_ret3
        exact NewPost2.bad HE.out (by decide) (n := nm) (fun h => by cases h) rfl (HO5.out.later HB6.out).drewN.below
theorem new_any {w : World} {v : Value} {us : List GU} (h : UArg w v us) (hlen : us.length ≤ 1000000) (hs : ∀ n ∈ namesU us, n.length ≤ 1000000) (hb : ∀ u ∈ us, Bnd u) :
    Calls Try.prog 6 #[v] w (NewPost w us) := (new_any2 h hlen hs hb).mono fun _ _ h => h.weak
end Go.Proofs.Ytnjabanjgckeoaa
