/- Texts one behind the other, each in a section of its own: what calls make of memory, step by step. -/
import Derived.Test.YtkhnkidggcjfeaaGreatDoorPackNeedHits2
import Derived.BigQuiet
import Derived.Deep.RegionWith
import Derived.Laws.Strings
import Derived.Maps.RangeRun
import Derived.ChangeMaps5
import Derived.Lib.SplitLaws
import Derived.Lib.Join
import Derived.Laws.RangeAny
import Derived.Test.YtkhnkidggcjfeaaGreatDoorChecked
import Derived.Lib.OthersKept
import Derived.Lib.Hide
import Derived.Deep.LoopGhost
set_option linter.unusedVariables false
set_option linter.unusedSimpArgs false
set_option maxRecDepth 100000
section
namespace Go.Proofs.YtkhnkidggcjfeaaGreatDoor
open Go.RowKit
def keepM (D : Dk) (h side used : Nat) (ws : List (List Value)) : Dk × Int :=
  if (writesM D (2 + side * h + used) ws).2 ≠ 0 then writesM D (2 + side * h + used) ws
  else writesM (writesM D (2 + side * h + used) ws).1 0 [bs (rootB side (used + ws.length))]
theorem Holds.keeps {K K' : List (List Value)} {h s u : Nat} {recs : List (List Int)} (H : Holds K h s u recs) (hl : K'.length = K.length) (h0 : K'[0]? = K[0]?) (hs : ∀ i : Nat, i < u → K'[2 + s * h + i]? = K[2 + s * h + i]?) : Holds K' h s u recs :=
  ⟨by rw [hl]; exact H.six, by rw [hl]; exact H.most, by rw [hl]; exact H.half, H.sides, H.uses, H.fit, by rw [h0]; exact H.root, fun i hi => by rw [hs i hi]; exact H.secs i hi, H.all⟩
structure Kept (K : List (List Value)) (h side used n : Nat) (recs : List (List Int)) (lf st : Int) (r : Dk × Int) : Prop where
  clean : Clean r.1
  len : r.1.last.length = K.length
  steps : r.1.steps ≤ st + n + 3
  more : st ≤ r.1.steps
  left0 : 0 ≤ r.1.left
  left : lf = 0 → r.1.left = 0 ∧ r.2 = 0
  ends : (r.2 = 0 ∧ r.1.down = false ∧ Holds r.1.last h side (used + n) recs) ∨
    (r.2 = 3 ∧ r.1.down = true ∧ r.1.left = 0 ∧ ∀ s0 u0 recs0, Holds K h s0 u0 recs0 → (s0 ≠ side ∨ u0 ≤ used) → Holds r.1.last h s0 u0 recs0 ∨ Holds r.1.last h side (used + n) recs)
theorem half_le (n : Nat) (h6 : 6 ≤ n) : 2 + 2 * ((n - 2) / 2) ≤ n ∧ 2 ≤ (n - 2) / 2 := by omega
theorem keep_spec (D : Dk) (hc : Clean D) (hu : D.down = false) (h0 : 0 ≤ D.left) (h side used : Nat) (recs : List (List Int)) (ws : List (List Value))
    (h6 : 6 ≤ D.last.length) (hm : D.last.length ≤ 4096) (hh : h = (D.last.length - 2) / 2) (hs : side ≤ 1) (hpre : ∀ i : Nat, i < used → D.last[2 + side * h + i]? = (secsV recs)[i]?)
    (hlen : used + ws.length = (secsB recs).length) (hfit : used + ws.length ≤ h) (hws : ∀ i : Nat, i < ws.length → (secsV recs)[used + i]? = ws[i]?) (hR : Recs recs) :
    Kept D.last h side used ws.length recs D.left D.steps (keepM D h side used ws) := by
  have hb := half_le D.last.length h6
  rw [← hh] at hb
  have hsh : side * h ≤ h := by
    rcases Nat.le_one_iff_eq_zero_or_eq_one.1 hs with rfl | rfl <;> omega
  obtain ⟨hW, hst1, hst2, hlf⟩ := writes_clean D hc hu h0 (2 + side * h + used) ws (by omega)
  unfold keepM
  rcases hW.ends with ⟨e1, u1, l1⟩ | ⟨e1, u1, f1, l1⟩
  · rw [e1, if_neg (by decide)]
    generalize hD1 : (writesM D (2 + side * h + used) ws).1 = D1 at *
    obtain ⟨hW2, hst3, hst4, hlf2⟩ := writes_clean D1 hW.clean u1 hlf 0 [bs (rootB side (used + ws.length))] (by rw [hW.len]; simp; omega)
    generalize hD2 : writesM D1 0 [bs (rootB side (used + ws.length))] = r at *
    simp only [List.length_singleton] at hst3
    refine ⟨hW2.clean, hW2.len.trans hW.len, by omega, by omega, hlf2, fun e => hW2.left (hW.left e).1, ?_⟩
    -- the new state, where the root is the new one
    have hnew : ∀ K' : List (List Value), K'.length = D1.last.length → K'[0]? = some (bs (rootB side (used + ws.length))) → (∀ j : Nat, 1 ≤ j → K'[j]? = D1.last[j]?) → Holds K' h side (used + ws.length) recs := by
      intro K' hl hk0 hk
      refine ⟨by rw [hl, hW.len]; exact h6, by rw [hl, hW.len]; exact hm, by rw [hl, hW.len]; exact hh, hs, hlen, hfit, hk0, fun i hi => ?_, hR⟩
      rw [hk _ (by omega), l1]
      by_cases hiu : i < used
      · rw [if_neg (by omega)]
        exact hpre i hiu
      · rw [if_pos (by omega), show 2 + side * h + i - (2 + side * h + used) = i - used from by omega, ← hws (i - used) (by omega), show used + (i - used) = i from by omega]
    have hold : ∀ K' : List (List Value), K'.length = D1.last.length → K'[0]? = D1.last[0]? → (∀ j : Nat, 1 ≤ j → K'[j]? = D1.last[j]?) → ∀ s0 u0 recs0, Holds D.last h s0 u0 recs0 → (s0 ≠ side ∨ u0 ≤ used) → Holds K' h s0 u0 recs0 := by
      intro K' hl hk0 hk s0 u0 recs0 H hor
      have hf0 := H.fit
      have hs0 := H.sides
      refine H.keeps (by rw [hl, hW.len]) ?_ ?_
      · rw [hk0, l1, if_neg (by omega)]
      · intro i hi
        rw [hk _ (by omega), l1, if_neg]
        intro hc'
        rcases hor with hne | hle
        · rcases Nat.le_one_iff_eq_zero_or_eq_one.1 hs with rfl | rfl <;> rcases Nat.le_one_iff_eq_zero_or_eq_one.1 hs0 with rfl | rfl <;> omega
        · by_cases hne : s0 = side
          · subst hne; omega
          · rcases Nat.le_one_iff_eq_zero_or_eq_one.1 hs with rfl | rfl <;> rcases Nat.le_one_iff_eq_zero_or_eq_one.1 hs0 with rfl | rfl <;> omega
    rcases hW2.ends with ⟨e2, u2, l2⟩ | ⟨e2, u2, f2, l2⟩
    · refine .inl ⟨e2, u2, hnew r.1.last hW2.len ?_ fun j hj => ?_⟩
      · rw [l2 0, if_pos (by simp)]; rfl
      · rw [l2 j, if_neg (by simp; omega)]
    · refine .inr ⟨e2, u2, f2, fun s0 u0 recs0 H hor => ?_⟩
      have hk : ∀ j : Nat, 1 ≤ j → r.1.last[j]? = D1.last[j]? := fun j hj => by
        rcases l2 j with h3 | ⟨_, h3, _⟩
        · exact h3
        · simp at h3; omega
      rcases l2 0 with h3 | ⟨_, _, h3⟩
      · exact .inl (hold r.1.last hW2.len h3 hk s0 u0 recs0 H hor)
      · exact .inr (hnew r.1.last hW2.len h3 hk)
  · rw [e1, if_pos (by decide)]
    refine ⟨hW.clean, hW.len, by omega, hst2, hlf, fun e => ⟨(hW.left e).1, (hW.left e).2⟩, .inr ⟨e1, u1, f1, fun s0 u0 recs0 H hor => .inl ?_⟩⟩
    have hf0 := H.fit
    have hs0 := H.sides
    refine H.keeps hW.len ?_ ?_
    · rcases l1 0 with h3 | ⟨h3, _, _⟩
      · exact h3
      · omega
    · intro i hi
      rcases l1 (2 + s0 * h + i) with h3 | ⟨h3, h4, _⟩
      · exact h3
      · exfalso
        rcases hor with hne | hle
        · rcases Nat.le_one_iff_eq_zero_or_eq_one.1 hs with rfl | rfl <;> rcases Nat.le_one_iff_eq_zero_or_eq_one.1 hs0 with rfl | rfl <;> omega
        · by_cases hne : s0 = side
          · subst hne; omega
          · rcases Nat.le_one_iff_eq_zero_or_eq_one.1 hs with rfl | rfl <;> rcases Nat.le_one_iff_eq_zero_or_eq_one.1 hs0 with rfl | rfl <;> omega
theorem secsV_append (a b : List (List Int)) : secsV (a ++ b) = secsV a ++ secsV b := by simp [secsV, secsB_append]
theorem keep_append (D : Dk) (hc : Clean D) (hu : D.down = false) (h0 : 0 ≤ D.left) (h side used : Nat) (recs : List (List Int)) (b : List Int) (H : Holds D.last h side used recs) (hb : Byts b) (hl : b.length ≤ 4096) (hf : used + roomM b.length ≤ h) :
    Kept D.last h side used (roomM b.length) (recs ++ [b]) D.left D.steps (keepM D h side used (secsV [b])) := by
  have hn : (secsV [b]).length = roomM b.length := by rw [secsV_length, secsB_one, layB_length]
  have hu' := H.uses
  have := keep_spec D hc hu h0 h side used (recs ++ [b]) (secsV [b]) H.six H.most H.half H.sides (fun i hi => by rw [H.secs i hi, secsV_append, List.getElem?_append_left (by rw [secsV_length]; omega)])
    (by rw [hn, secsB_append, List.length_append, secsB_one, layB_length]; omega) (by rw [hn]; exact hf)
    (fun i hi => by rw [secsV_append, List.getElem?_append_right (by rw [secsV_length]; omega), secsV_length, show used + i - (secsB recs).length = i from by omega])
    (fun x hx => by rcases List.mem_append.1 hx with h1 | h1; exact H.all x h1; rw [List.mem_singleton.1 h1]; exact ⟨hb, hl⟩)
  rwa [hn] at this
theorem keep_anew (D : Dk) (hc : Clean D) (hu : D.down = false) (h0 : 0 ≤ D.left) (h side : Nat) (recs : List (List Int)) (h6 : 6 ≤ D.last.length) (hm : D.last.length ≤ 4096) (hh : h = (D.last.length - 2) / 2) (hs : side ≤ 1) (hR : Recs recs) (hf : (secsB recs).length ≤ h) :
    Kept D.last h side 0 (secsB recs).length recs D.left D.steps (keepM D h side 0 (secsV recs)) := by
  have := keep_spec D hc hu h0 h side 0 recs (secsV recs) h6 hm hh hs (fun i hi => absurd hi (by omega)) (by rw [secsV_length, Nat.zero_add]) (by rw [secsV_length]; omega) (fun i hi => by rw [Nat.zero_add]) hR
  rwa [secsV_length] at this
end Go.Proofs.YtkhnkidggcjfeaaGreatDoor
end
section
namespace Go.Proofs.YtkhnkidggcjfeaaGreatDoor
open Go.RowKit
def secB (b : Int) : List Value := .int .u8 b :: List.replicate 63 (.int .u8 0)
theorem DkAt.more {W0 : Base} {w : World} {d : Nat} {D : Dk} {L : List Rw} {r : Rw} (hD : D.Ok) {kb lb n : Nat} {sv : Value} (hn : n = D.last.length) (h : Own W0 w (r :: rowsOf d kb lb sv n D L)) : DkAt W0 w d D (r :: L) := ⟨hD, kb, lb, n, sv, hn, h.unfifth⟩
theorem wpList_store_dk {P : Program} {ops : Array Oper} {rest : List Oper} {op : Oper} {a : Act} {w : World} {Q : Exit → Act → World → Prop} (hgd : op.guard = none) (ty : TypeId) (x y : Operand) (ho : op.op = .store ty x y)
    {W0 : Base} {d : Nat} {D : Dk} {L : List Rw} (h : DkAt W0 w d D L) {Z : Array Value} (cs : List Value) (b : Nat) (hb : b = w.heap.size) (hx : a.eval x = .pointer (some ⟨b, 0, none⟩)) (hy : a.eval y = .agg cs.toArray) (hz : Z.size = cs.length)
    (hi : (P.info? ty).map (·.size) = some cs.length) (h1 : ∀ v ∈ cs, v.oneCell' = true)
    (hK : ∀ w', DkAt W0 w' d D (⟨ty, cs.length, .slice (some ⟨b, 0, none⟩) 1 1, 1, cs⟩ :: L) → wpList P ops Q rest (a.put op.dst undef) w') : wpList P ops Q (op :: rest) a (w.alloc (.cells Z ty)) := by
  obtain ⟨hD, kb, lb, n, sv, hn, hO⟩ := h
  exact wpList_store_new hgd ty x y ho hO cs b hb hx hy hz hi h1 fun w' hO' _ => hK w' (DkAt.more hD hn hO')
def aD0 : Dk := newM 2
def aD1 : Dk := (writeM aD0 0 (secB 1)).1
def aD2 : Dk := (flushM aD1).1
def aD3 : Dk := (writeM aD2 0 (secB 2)).1
def aD4 : Dk := crashM aD3 0
def aD5 : Dk := onM aD4
end Go.Proofs.YtkhnkidggcjfeaaGreatDoor
end
section
namespace Go.Proofs.YtkhnkidggcjfeaaGreatDoor
open Go.RowKit
theorem Own.form3 {W0 : Base} {w : World} {v : Value} {zs : List Int} {L : List Rw} (h : Own W0 w (rowU v zs :: L)) : ∃ a k c, v = .slice a k c := by
  obtain ⟨a, c, hv, _⟩ := Own.sized (h := h)
  exact ⟨_, _, _, hv⟩
theorem Own.of_mem {W0 : Base} {w : World} {L M : List Rw} (h : Own W0 w L) (hs : M.Sublist L) : Own W0 w M :=
  ⟨h.below, fun p hp => h.rows p (hs.subset hp), h.apart.sublist hs, h.maps, fun m hm p hp => h.offmaps m hm p (hs.subset hp)⟩
/-! ### Rows beside a disk -/
theorem DkAt.open {W0 : Base} {w : World} {d : Nat} {D : Dk} {L : List Rw} (h : DkAt W0 w d D L) : ∃ R : List Rw, Own W0 w (R ++ L) ∧ (∀ w' L', Own W0 w' (R ++ L') → DkAt W0 w' d D L') := by
  obtain ⟨hD, kb, lb, n, sv, hn, hO⟩ := h
  exact ⟨[rowD d kb lb sv n D, rowK kb n D.kept, rowK lb n D.last, rowS sv D.since], hO, fun w' L' h' => ⟨hD, kb, lb, n, sv, hn, h'⟩⟩
theorem DkAt.own {W0 : Base} {w : World} {d : Nat} {D : Dk} {L : List Rw} (h : DkAt W0 w d D L) : Own W0 w L := by
  obtain ⟨R, h1, _⟩ := h.open
  exact h1.of_mem (List.sublist_append_right _ _)
theorem DkAt.sub {W0 : Base} {w : World} {d : Nat} {D : Dk} {L L' : List Rw} (h : DkAt W0 w d D L) (hs : L'.Sublist L) : DkAt W0 w d D L' := by
  obtain ⟨R, h1, h2⟩ := h.open
  exact h2 _ _ (h1.of_mem (List.Sublist.append_left hs _))
theorem DkAt.perm {W0 : Base} {w : World} {d : Nat} {D : Dk} {L L' : List Rw} (h : DkAt W0 w d D L) (hp : L.Perm L') : DkAt W0 w d D L' := by
  obtain ⟨R, h1, h2⟩ := h.open
  exact h2 _ _ (h1.perm (List.Perm.append_left _ hp))
theorem DkAt.join {W0 : Base} {w w' : World} {d : Nat} {D : Dk} {L M : List Rw} (h : DkAt W0 w d D L) (k : Own w w' M) : DkAt W0 w' d D (M ++ L) := by
  obtain ⟨R, h1, h2⟩ := h.open
  refine h2 _ _ ((h1.join k).perm ?_)
  rw [← List.append_assoc, ← List.append_assoc]
  exact List.perm_append_comm.append_right L
theorem DkAt.drewN {W0 : Base} {w : World} {d : Nat} {D : Dk} {L : List Rw} (h : DkAt W0 w d D L) {n : Nat} : DkAt W0 (w.drewN n) d D L := by
  obtain ⟨R, h1, h2⟩ := h.open
  exact h2 _ _ h1.drewN
theorem DkAt.first {W0 : Base} {w : World} {d : Nat} {D : Dk} {L : List Rw} {r : Rw} (h : DkAt W0 w d D (r :: L)) : ∃ R : List Rw, Own W0 w (r :: (R ++ L)) ∧ (∀ w' r' L', Own W0 w' (r' :: (R ++ L')) → DkAt W0 w' d D (r' :: L')) := by
  obtain ⟨R, h1, h2⟩ := h.open
  exact ⟨R, h1.perm List.perm_middle, fun w' r' L' h' => h2 _ _ (h'.perm List.perm_middle.symm)⟩
theorem DkAt.onSet {W0 : Base} {w : World} {d : Nat} {D : Dk} {L : List Rw} {e size g n cap : Nat} {xs : List Value} (h : DkAt W0 w d D (⟨e, size, .slice (some ⟨g, 0, none⟩) n cap, n, xs⟩ :: L)) (j : Nat) (u : Value) : DkAt W0 (w.setCell ⟨g, j, none⟩ u) d D (⟨e, size, .slice (some ⟨g, 0, none⟩) n cap, n, xs.set j u⟩ :: L) := by
  obtain ⟨R, h1, h2⟩ := h.first
  exact h2 _ _ _ (Own.set (h := h1) j u)
theorem DkAt.onSets {W0 : Base} {w : World} {d : Nat} {D : Dk} {L : List Rw} {e size g n cap : Nat} {xs : List Value} (h : DkAt W0 w d D (⟨e, size, .slice (some ⟨g, 0, none⟩) n cap, n, xs⟩ :: L)) (vs : List Value) (j : Nat) : DkAt W0 (w.setCells g j vs) d D (⟨e, size, .slice (some ⟨g, 0, none⟩) n cap, n, splice xs j vs⟩ :: L) := by
  obtain ⟨R, h1, h2⟩ := h.first
  exact h2 _ _ _ (Own.setCells (h := h1) vs j)
/-! ### The log's own cells, and the list of its records -/
def lcells (d : Nat) (side used : Nat) (lv : Value) (dead : Bool) : List Value := [.pointer (some ⟨d, 0, none⟩), .int .i64 side, .int .i64 used, lv, .bool dead]
def rowLog (l d : Nat) (side used : Nat) (lv : Value) (dead : Bool) : Rw := ⟨156, 5, .slice (some ⟨l, 0, none⟩) 1 1, 1, lcells d side used lv dead⟩
def rowV (lv : Value) (vs : List Value) : Rw := ⟨38, 1, lv, vs.length, vs⟩
theorem info_v : (Tryz.prog.info? 38).map (fun i => (i.zero, i.size, i.bytes)) = some (some (.slice none 0 0), 1, 24) := by kernel_rfl
def Lst (M : List Rw) (vs : List Value) (recs : List (List Int)) : Prop := vs.length = recs.length ∧ ∀ (i : Nat) (v : Value) (b : List Int), vs[i]? = some v → recs[i]? = some b → Pc M v b
theorem Lst.nil (M : List Rw) : Lst M [] [] := ⟨rfl, fun i v b h => by simp at h⟩
theorem Lst.mono {L L' : List Rw} {vs : List Value} {recs : List (List Int)} (h : Lst L vs recs) (hs : ∀ r ∈ L, r ∈ L') : Lst L' vs recs := ⟨h.1, fun i v b h1 h2 => (h.2 i v b h1 h2).mono hs⟩
theorem Lst.push {L : List Rw} {vs : List Value} {recs : List (List Int)} (h : Lst L vs recs) {v : Value} {b : List Int} (hp : Pc L v b) : Lst L (vs ++ [v]) (recs ++ [b]) := by
  refine ⟨by simp [h.1], fun i u c h1 h2 => ?_⟩
  have hl := h.1
  by_cases hi : i < vs.length
  · rw [List.getElem?_append_left hi] at h1
    rw [List.getElem?_append_left (by omega)] at h2
    exact h.2 i u c h1 h2
  · rw [List.getElem?_append_right (by omega)] at h1
    rw [List.getElem?_append_right (by omega)] at h2
    by_cases hi2 : i = vs.length
    · subst hi2
      rw [Nat.sub_self] at h1
      rw [hl, Nat.sub_self] at h2
      simp at h1 h2
      subst h1 h2
      exact hp
    · have : i - vs.length = (i - vs.length - 1) + 1 := by omega
      rw [this] at h1
      simp at h1
theorem zip_recs (vs : List Value) (recs : List (List Int)) (h : vs.length = recs.length) : (vs.zip recs).map (·.2) = recs := by
  rw [List.map_snd_zip (by omega)]
theorem Lst.parts {W0 : Base} {w : World} {lv : Value} {vs : List Value} {recs : List (List Int)} {M L : List Rw} (h : Lst M vs recs) (hM : Own W0 w M) (hV : Own W0 w (rowV lv vs :: L)) : ∃ a c, lv = .slice a vs.length c ∧ Parts w a (vs.zip recs) ∧ vs.length ≤ maxLen := by
  obtain ⟨a, c, hv, h1, h2⟩ := Own.sized (h := hV)
  refine ⟨a, c, hv, fun i hi => ?_, Nat.le_trans h1 h2⟩
  have hl := h.1
  rw [List.length_zip, ← hl, Nat.min_self] at hi
  obtain ⟨g, cap, hf, _, _, _, _⟩ := Own.form (h := hV) (by omega)
  rw [hv] at hf
  injection hf with e1 e2 e3
  subst e1
  subst e3
  rw [hv] at hV
  refine ⟨g, 0, rfl, ?_, ?_⟩
  · rw [Nat.zero_add, Own.cell (h := hV) i (by omega), List.getElem?_eq_getElem hi, List.getElem_zip]
  · rw [List.getElem_zip]
    exact (h.2 i _ _ (List.getElem?_eq_getElem hi) (List.getElem?_eq_getElem (by omega))).by hM
structure LgAt (W0 : Base) (w : World) (l d : Nat) (D : Dk) (side used : Nat) (recs : List (List Int)) (dead : Bool) (L : List Rw) : Prop where
  six : 6 ≤ D.last.length
  sides : side ≤ 1
  fit : used ≤ (D.last.length - 2) / 2
  rest : ∃ lv vs M, DkAt W0 w d D (rowLog l d side used lv dead :: rowV lv vs :: (M ++ L)) ∧ Lst M vs recs
theorem LgAt.disk {W0 : Base} {w : World} {l d : Nat} {D : Dk} {side used : Nat} {recs : List (List Int)} {dead : Bool} {L : List Rw} (h : LgAt W0 w l d D side used recs dead L) : ∃ L', DkAt W0 w d D L' := by
  obtain ⟨lv, vs, M, h1, _⟩ := h.rest
  exact ⟨_, h1⟩
theorem LgAt.later {W0 : Base} {w w' : World} {l d : Nat} {D : Dk} {side used : Nat} {recs : List (List Int)} {dead : Bool} {L : List Rw} (h : LgAt W0 w l d D side used recs dead L) (hb : Below w.heap.size w w') : LgAt W0 w' l d D side used recs dead L := by
  obtain ⟨lv, vs, M, h1, h2⟩ := h.rest
  exact ⟨h.six, h.sides, h.fit, lv, vs, M, h1.later hb, h2⟩
theorem LgAt.drewN {W0 : Base} {w : World} {l d : Nat} {D : Dk} {side used : Nat} {recs : List (List Int)} {dead : Bool} {L : List Rw} (h : LgAt W0 w l d D side used recs dead L) {n : Nat} : LgAt W0 (w.drewN n) l d D side used recs dead L := by
  obtain ⟨lv, vs, M, h1, h2⟩ := h.rest
  exact ⟨h.six, h.sides, h.fit, lv, vs, M, h1.drewN, h2⟩
theorem LgAt.drew {W0 : Base} {w : World} {l d : Nat} {D : Dk} {side used : Nat} {recs : List (List Int)} {dead : Bool} {L : List Rw} (h : LgAt W0 w l d D side used recs dead L) : LgAt W0 w.drew l d D side used recs dead L := by
  obtain ⟨lv, vs, M, h1, h2⟩ := h.rest
  exact ⟨h.six, h.sides, h.fit, lv, vs, M, h1.drew, h2⟩
theorem LgAt.join {W0 : Base} {w w' : World} {l d : Nat} {D : Dk} {side used : Nat} {recs : List (List Int)} {dead : Bool} {L N : List Rw} (h : LgAt W0 w l d D side used recs dead L) (k : Own w w' N) : LgAt W0 w' l d D side used recs dead (N ++ L) := by
  obtain ⟨lv, vs, M, h1, h2⟩ := h.rest
  refine ⟨h.six, h.sides, h.fit, lv, vs, M, (h1.join k).perm ?_, h2⟩
  have e : rowLog l d side used lv dead :: rowV lv vs :: (M ++ (N ++ L)) = (rowLog l d side used lv dead :: rowV lv vs :: M) ++ (N ++ L) := rfl
  have e2 : N ++ rowLog l d side used lv dead :: rowV lv vs :: (M ++ L) = N ++ ((rowLog l d side used lv dead :: rowV lv vs :: M) ++ L) := rfl
  rw [e, e2, ← List.append_assoc, ← List.append_assoc]
  exact List.perm_append_comm.append_right L
theorem LgAt.sub {W0 : Base} {w : World} {l d : Nat} {D : Dk} {side used : Nat} {recs : List (List Int)} {dead : Bool} {L L' : List Rw} (h : LgAt W0 w l d D side used recs dead L) (hs : L'.Sublist L) : LgAt W0 w l d D side used recs dead L' := by
  obtain ⟨lv, vs, M, h1, h2⟩ := h.rest
  exact ⟨h.six, h.sides, h.fit, lv, vs, M, h1.sub ((List.Sublist.append_left hs M).cons_cons _ |>.cons_cons _), h2⟩
theorem LgAt.own {W0 : Base} {w : World} {l d : Nat} {D : Dk} {side used : Nat} {recs : List (List Int)} {dead : Bool} {L : List Rw} (h : LgAt W0 w l d D side used recs dead L) : Own W0 w L := by
  obtain ⟨lv, vs, M, h1, h2⟩ := h.rest
  exact h1.own.of_mem (((List.sublist_append_right M L).cons _).cons _)
theorem LgAt.ok {W0 : Base} {w : World} {l d : Nat} {D : Dk} {side used : Nat} {recs : List (List Int)} {dead : Bool} {L : List Rw} (h : LgAt W0 w l d D side used recs dead L) : D.Ok := by
  obtain ⟨lv, vs, M, h1, h2⟩ := h.rest
  exact h1.ok
theorem log_cells {W0 : Base} {w : World} {l d : Nat} {D : Dk} {side used : Nat} {lv : Value} {dead : Bool} {L : List Rw} (h : DkAt W0 w d D (rowLog l d side used lv dead :: L)) :
    w.cell? ⟨l, 0, none⟩ = some (.pointer (some ⟨d, 0, none⟩)) ∧ w.cell? ⟨l, 1, none⟩ = some (.int .i64 side) ∧ w.cell? ⟨l, 2, none⟩ = some (.int .i64 used) ∧ w.cell? ⟨l, 3, none⟩ = some lv ∧ w.cell? ⟨l, 4, none⟩ = some (.bool dead) ∧ (∀ j, w.frozen? ⟨l, j, none⟩ = false) ∧ l < w.heap.size := by
  obtain ⟨R, h1, _⟩ := h.first
  exact ⟨Own.cell (h := h1) 0 (by decide), Own.cell (h := h1) 1 (by decide), Own.cell (h := h1) 2 (by decide), Own.cell (h := h1) 3 (by decide), Own.cell (h := h1) 4 (by decide), fun j => Own.free (h := h1) j, (h1.lt (List.mem_cons_self ..) (k := l) rfl).2⟩
theorem LgAt.cells {W0 : Base} {w : World} {l d : Nat} {D : Dk} {side used : Nat} {recs : List (List Int)} {dead : Bool} {L : List Rw} (h : LgAt W0 w l d D side used recs dead L) :
    w.cell? ⟨l, 0, none⟩ = some (.pointer (some ⟨d, 0, none⟩)) ∧ w.cell? ⟨l, 1, none⟩ = some (.int .i64 side) ∧ w.cell? ⟨l, 2, none⟩ = some (.int .i64 used) ∧ w.cell? ⟨l, 4, none⟩ = some (.bool dead) ∧ (∀ j, w.frozen? ⟨l, j, none⟩ = false) ∧ l < w.heap.size := by
  obtain ⟨lv, vs, M, h1, h2⟩ := h.rest
  obtain ⟨a, b, c, _, e, f, g⟩ := log_cells h1
  exact ⟨a, b, c, e, f, g⟩
/-! ### Small calls -/
theorem room_any (n : Nat) (w : World) (hn : n ≤ 140737488355328) : Calls Tryz.prog 123 #[.int .i64 (n : Int)] w fun e w' => e = .returned (.int .i64 (roomM n : Int)) ∧ w = w' := by
  have h1 : (if 0 < (n : Int) then (n : Int) else 0) = n := by omega
  have h2 : (if (n : Int) < 0 then 0 else (n : Int)) = n := by omega
  have h3 : (if (n : Int) ≤ 0 then 0 else (n : Int)) = n := by omega
  have h4 : (if (0 : Int) > (n : Int) then 0 else (n : Int)) = n := by omega
  have hE : ((n : Int) / 63 + ((n : Int) % 63 + 16 + 63 - 1) / 63) = (roomM n : Int) := by unfold roomM; omega
  have HE := Lib.hid hE
  clear hE
  go_enter Tryz.func123, Tryz.ntmps123
  go_wp2_with fail
  go_ret
  exact ⟨congrArg (fun z => Ending.returned (Value.int .i64 z)) HE.out, rfl⟩
theorem half_dk {W0 : Base} {w : World} {l d : Nat} {D : Dk} {side used : Nat} {lv : Value} {dead : Bool} {L : List Rw} (h : DkAt W0 w d D (rowLog l d side used lv dead :: L)) (h6 : 6 ≤ D.last.length) :
    Calls Tryz.prog 108 #[.pointer (some ⟨l, 0, none⟩)] w fun e w' => e = .returned (.int .i64 (((D.last.length - 2) / 2 : Nat) : Int)) ∧ w = w' := by
  obtain ⟨c0, _, _, _, _, _, _⟩ := log_cells h
  have hm := h.ok.le
  have H := Lib.hid h
  obtain ⟨n, hn⟩ : ∃ n, D.last.length = n := ⟨_, rfl⟩
  rw [hn] at h6 hm ⊢
  have hE : (((n : Int) - 2) / 2) = (((n - 2) / 2 : Nat) : Int) := by omega
  have HE := Lib.hid hE
  have Hn := Lib.hid hn
  clear h hE hn
  go_enter Tryz.func108, Tryz.ntmps108
  go_wp2_with fail
  refine (len_any W0 w d D _ H.out).mono ?_
  rintro e w' ⟨rfl, rfl⟩
  rw [Hn.out]
  have hn0 : (0 : Int) ≤ (n : Int) - 2 := by omega
  go_wp2_with fail
  go_ret
  exact ⟨congrArg (fun z => Ending.returned (Value.int .i64 z)) HE.out, rfl⟩
theorem half_any {W0 : Base} {w : World} {l d : Nat} {D : Dk} {side used : Nat} {recs : List (List Int)} {dead : Bool} {L : List Rw} (h : LgAt W0 w l d D side used recs dead L) :
    Calls Tryz.prog 108 #[.pointer (some ⟨l, 0, none⟩)] w fun e w' => e = .returned (.int .i64 (((D.last.length - 2) / 2 : Nat) : Int)) ∧ w = w' := by
  obtain ⟨lv, vs, M, h1, h2⟩ := h.rest
  exact half_dk h1 h.six
theorem place_dk {W0 : Base} {w : World} {l d : Nat} {D : Dk} {side used : Nat} {lv : Value} {dead : Bool} {L : List Rw} (h : DkAt W0 w d D (rowLog l d side used lv dead :: L)) (h6 : 6 ≤ D.last.length) (s x : Nat) (hs : s ≤ 1) (hx : x ≤ 100000) :
    Calls Tryz.prog 125 #[.pointer (some ⟨l, 0, none⟩), .int .i64 s, .int .i64 x] w fun e w' => e = .returned (.int .i64 ((2 + s * ((D.last.length - 2) / 2) + x : Nat) : Int)) ∧ w = w' := by
  have hm := h.ok.le
  have Hc := Lib.hid (half_dk h h6)
  obtain ⟨k, hk, hk2⟩ : ∃ k : Nat, (D.last.length - 2) / 2 = k ∧ k ≤ 4096 := ⟨_, rfl, by omega⟩
  rw [hk] at Hc ⊢
  have hsk : (s : Int) * (k : Int) = ((s * k : Nat) : Int) := by simp
  have hskb : s * k ≤ 4096 := by
    rcases Nat.le_one_iff_eq_zero_or_eq_one.1 hs with rfl | rfl <;> omega
  generalize s * k = q at *
  clear h hk
  go_enter Tryz.func125, Tryz.ntmps125
  go_wp2_with fail
  refine Hc.out.mono ?_
  rintro e w' ⟨rfl, rfl⟩
  go_wp2_with fail
  go_ret
  exact ⟨by go_num, rfl⟩
theorem left_any {W0 : Base} {w : World} {l d : Nat} {D : Dk} {side used : Nat} {recs : List (List Int)} {dead : Bool} {L : List Rw} (h : LgAt W0 w l d D side used recs dead L) :
    Calls Tryz.prog 101 #[.pointer (some ⟨l, 0, none⟩)] w fun e w' => e = .returned (.int .i64 (((D.last.length - 2) / 2 - used : Nat) : Int)) ∧ ∃ n, w' = w.drewN n := by
  obtain ⟨c0, c1, c2, c4, f, hl⟩ := h.cells
  have hm := h.ok.le
  have hf := h.fit
  have Hc := Lib.hid (fun n : Nat => half_any (h.drewN (n := n)))
  obtain ⟨k, hk, hk2⟩ : ∃ k : Nat, (D.last.length - 2) / 2 = k ∧ k ≤ 4096 := ⟨_, rfl, by omega⟩
  rw [hk] at Hc hf ⊢
  clear h hk
  have hwr : IntKind.i64.wrap ((k : Int) - (used : Int)) = ((k - used : Nat) : Int) := by rw [IntWalk.i64_in _ (by omega)]; omega
  go_enter Tryz.func101, Tryz.ntmps101
  go_wp2_with fail
  go_quiet ((go_at_call 108; exact Calls.quiet_of_same ((Hc.out _).mono fun e w' ⟨h1, h2⟩ => ⟨h1, h2.symm⟩)))
  go_wp2_with fail
  go_ret
  exact ⟨rfl, _, rfl⟩
end Go.Proofs.YtkhnkidggcjfeaaGreatDoor
end
section
namespace Go.Proofs.YtkhnkidggcjfeaaGreatDoor
open Go.RowKit
set_option maxHeartbeats 1600000 in
set_option maxRecDepth 100000 in
theorem copies_any (a : Option Addr) (c : Nat) (PS : List (Value × List Int)) (w : World) (h : Parts w a PS) (hn : PS.length ≤ 1000000) (hl : ∀ p ∈ PS, p.2.length ≤ 140737488355328) :
    Calls Tryz.prog 83 #[.slice a PS.length c] w fun e w' => ∃ lv vs M, e = .returned lv ∧ Own w w' (rowV lv vs :: M) ∧ Lst M vs (PS.map (·.2)) := by
  obtain ⟨i0, hi, hz0, hz1, hz2⟩ := info_parts info_v
  have H := Lib.hid h
  have Hl := Lib.hid hl
  clear h hl
  go_enter Tryz.func83, Tryz.ntmps83
  go_wp2_with fail
  go_loopw [3, 8] (fun lv t wr => ∃ (k : Nat) (vs : List Value) (M : List Rw), k ≤ PS.length ∧ t = .int .i64 k ∧ Own w wr (rowV lv vs :: M) ∧ Lst M vs ((PS.map (·.2)).take k)) (fun _ t _ => PS.length - (intOf t).toNat)
  case atStart => exact ⟨0, [], [], Nat.zero_le _, rfl, (Own.start w).nil _ _, by simpa using Lst.nil []⟩
  case round =>
    obtain ⟨k, vs, M, hk, rfl, hO, hL⟩ := hrel
    by_cases hlt : k < PS.length
    · obtain ⟨g, o, rfl, hc, hy⟩ := (H.out.later hO.below) k hlt
      have hT : (PS.map (·.2)).take (k + 1) = (PS.map (·.2)).take k ++ [PS[k].2] := by
        rw [List.take_succ_eq_append_getElem (by simpa using hlt), List.getElem_map]
      have hvl : vs.length = k := by rw [hL.1, List.length_take, List.length_map]; omega
      have hlen := Hl.out PS[k] (List.getElem_mem hlt)
      have hz := hy.2.1
      have HT := Lib.hid hT
      have HO := Lib.hid hO
      have HL := Lib.hid hL
      have Hy := Lib.hid hy
      have Hz := Lib.hid hz
      have Hvl := Lib.hid hvl
      clear hT hO hL hy hvl
      obtain ⟨a1, c1', hv1, _, _⟩ := Hy.out.2.2
      rw [hv1] at hc Hy
      clear hv1
      generalize PS[k].2 = zs at *
      go_wp2_with fail
      refine (clone_any _ zs wr Hy.out hlen).mono ?_
      rintro e w2 ⟨v2, rfl, hO2⟩
      have HO2 := Lib.hid (HO.out.join hO2)
      have HP := Lib.hid (Pc.all (HO.out.join hO2) Hz.out)
      obtain ⟨a2, k2, c2, rfl⟩ := hO2.form3
      have hO3 := HO2.out.alloc (.cells #[.slice a2 k2 c2] 38)
      have HO3 := Lib.hid (show Own w _ (rowV u3 vs :: (rowU (.slice a2 k2 c2) zs :: M)) from hO3.swap)
      have hsrc : Src (w2.alloc (.cells #[.slice a2 k2 c2] 38)) (.slice (some ⟨w2.heap.size, 0, none⟩) 1 1) 1 [.slice a2 k2 c2] := by
        refine .inr ⟨_, _, rfl, fun j u hj => ?_, fun u hu => by rw [List.mem_singleton.1 hu]; rfl⟩
        rw [Addr.add_mid, Nat.zero_add, World.cell?_alloc_new]
        simpa using hj
      have Hsrc := Lib.hid hsrc
      have HL2 := Lib.hid (show Lst (rowU (.slice a2 k2 c2) zs :: M) (vs ++ [.slice a2 k2 c2]) ((PS.map (·.2)).take (k + 1)) by
        rw [HT.out]
        have hp : Pc (rowU (.slice a2 k2 c2) zs :: M) (.slice a2 k2 c2) zs := by
          have := Pc.all (L := M) ((HO2.out.of_mem (.cons_cons _ (List.sublist_cons_self _ _))) : Own w w2 (rowU (.slice a2 k2 c2) zs :: M)) Hz.out
          exact this
        exact (HL.out.mono fun r hr => List.mem_cons_of_mem _ hr).push hp)
      have hb1 : vs.length + 1 ≤ maxLen := by rw [Hvl.out]; unfold maxLen; omega
      have hb2 : (vs.length + 1) * 24 ≤ 140737488355328 := by rw [Hvl.out]; omega
      have Hb1 := Lib.hid hb1
      have Hb2 := Lib.hid hb2
      clear hO2 hO3 hsrc hb1 hb2 HO2 HP HT HL HO
      go_wp2_with (at_builtin; refine wpList_append_src rfl (.tmp 12) (.tmp 15) 102 rfl u3 vs.length vs (.slice (some ⟨w2.heap.size, 0, none⟩) 1 1) 1 [.slice a2 k2 c2] rfl rfl HO3.out i0 (.slice none 0 0) 24 Tryz.underlying102 hi hz0 hz1 hz2 rfl (by decide) Hsrc.out (by simp) Hb1.out Hb2.out ?_)
      intro v3 w3 hO4
      have HO4 := Lib.hid (show Own w w3 (rowV v3 (vs ++ [.slice a2 k2 c2]) :: (rowU (.slice a2 k2 c2) zs :: M)) by unfold rowV; rw [List.length_append]; exact hO4)
      clear hO4 HO3 Hsrc
      go_wp2_with fail
      exact ⟨⟨k + 1, _, _, by omega, by go_num, HO4.out, HL2.out⟩, by simp [intOf]; omega⟩
    · obtain rfl : k = PS.length := by omega
      have HO := Lib.hid hO
      have HL := Lib.hid (show Lst M vs (PS.map (·.2)) by rw [List.take_of_length_le (by simp)] at hL; exact hL)
      clear hO hL
      go_wp2_with fail
      go_ret
      exact ⟨_, _, _, rfl, HO.out, HL.out⟩
end Go.Proofs.YtkhnkidggcjfeaaGreatDoor
end
section
namespace Go.Proofs.YtkhnkidggcjfeaaGreatDoor
open Go.RowKit
instance (zs : List Int) (most : Int) : Decidable (isSized zs most) := by unfold isSized; infer_instance
def numP (most : Int) (zs : List Int) (bad : Bool) : Int × List Int × Bool := if 4 ≤ zs.length ∧ num4 zs ≤ most then (num4 zs, zs.drop 4, bad) else (0, [], true)
def bodP (most : Int) (zs : List Int) (bad : Bool) : List Int × List Int × Bool := if isSized zs most then (bodyOf zs, restOf zs, bad) else ([], [], true)
def Rd (W0 : Base) (w : World) (L : List Rw) (r : Nat) (zs : List Int) (bad : Bool) : Prop := ∃ v, Own W0 w (rowR r v bad :: L) ∧ Pc L v zs
theorem Pc.keep {L L' : List Rw} {v : Value} {zs : List Int} (h : Pc L v zs) (hs : ∀ r ∈ L, r.e = 5 → r ∈ L') : Pc L' v zs := by
  obtain ⟨a, c, hv, h1, h2, hz, h3⟩ := h
  refine ⟨a, c, hv, h1, h2, hz, ?_⟩
  rcases h3 with h3 | ⟨g, o, ha, h3⟩
  · exact .inl h3
  · exact .inr ⟨g, o, ha, fun hne => by obtain ⟨cap, ys, hm, h4⟩ := h3 hne; exact ⟨cap, ys, hs _ hm rfl, h4⟩⟩
def Rd2 (W0 : Base) (w : World) (L : List Rw) (r2 : Nat) (zs2 : List Int) (bad2 : Bool) (r : Nat) (zs : List Int) (bad : Bool) : Prop := ∃ v2 v, Own W0 w (rowR r2 v2 bad2 :: rowR r v bad :: L) ∧ Pc L v2 zs2 ∧ Pc L v zs
end Go.Proofs.YtkhnkidggcjfeaaGreatDoor
end
section
namespace Go.Proofs.YtkhnkidggcjfeaaGreatDoor
open Go.RowKit
open Go.ChangeMaps (setBlock)
open Go.MapKept (run_checkKey run_findKey run_setObj_map bytes_beq)
set_option linter.unusedSectionVars false
section
variable {P : Program} {α : Type} [DecidableEq α]
structure Kinds (P : Program) (kt : TypeId) (K : α → Value) : Prop where
  now : ∃ d, P.underlying kt = some d ∧ (∀ a, Instr.sameNow d (K a) (K a) = some true) ∧ ∀ a b, a ≠ b → Instr.sameNow d (K a) (K b) = some false
  check : ∀ empty a w, (Instr.checkKey empty 10000 kt (K a)).run P w = .ok () w
  stays : ∀ a, Instr.sameBits 10000 (K a) (K a) = true
theorem kinds_int {kt : TypeId} (h : P.underlying kt = some (.int .i64)) : Kinds P kt (fun i : Int => Value.int .i64 i) :=
  ⟨⟨_, h, fun a => by simp [Instr.sameNow], fun a b hab => by simp [Instr.sameNow, hab]⟩, fun empty a w => run_checkKey (k := Value.int .i64 a) h (show MapKept.IsKey (.int .i64) (.int .i64 a) from rfl) empty _, fun a => by simp [Instr.sameBits]⟩
theorem kinds_string {kt : TypeId} (h : P.underlying kt = some .string) : Kinds P kt (fun s : ByteArray => Value.string s) :=
  ⟨⟨_, h, fun a => by simp [Instr.sameNow, (bytes_beq a a).2 rfl], fun a b hab => by
    have : (a == b) = false := by
      cases hb : a == b with
      | false => rfl
      | true => exact absurd ((bytes_beq a b).1 hb) hab
    simp [Instr.sameNow, this]⟩, fun empty a w => run_checkKey (k := Value.string a) h (show MapKept.IsKey .string (.string a) from trivial) empty _, fun a => by simp [Instr.sameBits, (bytes_beq a a).2 rfl]⟩
def look {β : Type} (m : List (α × β)) (a : α) : Option β := match m with
  | [] => none
  | p :: r => if p.1 = a then some p.2 else look r a
def put {β : Type} (m : List (α × β)) (a : α) (v : β) : List (α × β) := match m with
  | [] => [(a, v)]
  | p :: r => if p.1 = a then (a, v) :: r else p :: put r a v
def del {β : Type} (m : List (α × β)) (a : α) : List (α × β) := match m with
  | [] => []
  | p :: r => if p.1 = a then r else p :: del r a
def MapO (K : α → Value) (o : Obj) (m : List (α × Value)) : Prop :=
  ∃ es clock, o = .map es clock ∧ es.toList.map (fun e => (e.key, e.val)) = m.map (fun p => (K p.1, p.2)) ∧ (es.toList.map (·.born)).Nodup ∧ ∀ e ∈ es.toList, e.born < clock
theorem MapO.empty (K : α → Value) : MapO K (.map #[] 0) [] := ⟨#[], 0, rfl, rfl, List.nodup_nil, fun e he => by simp at he⟩
theorem find_run {kt : TypeId} {K : α → Value} (hK : Kinds P kt K) (a : α) (w : World) (l : List MapEntry) (m : List (α × Value)) (h : l.map (fun e => (e.key, e.val)) = m.map (fun p => (K p.1, p.2))) :
    ∃ r, (Instr.findKey kt (K a) l).run P w = .ok r w ∧ ((r = none ∧ look m a = none ∧ a ∉ m.map (·.1)) ∨ ∃ (i : Nat) (v : Value), r = some (i, v) ∧ look m a = some v ∧ i < l.length ∧ (∀ u, (put m a u).map (fun p => (K p.1, p.2)) = (l.map (fun e => (e.key, e.val))).set i (K a, u)) ∧ (del m a).map (fun p => (K p.1, p.2)) = (l.map (fun e => (e.key, e.val))).eraseIdx i ∧ (l[i]?).map (·.key) = some (K a)) := by
  obtain ⟨d, hd, h1, h2⟩ := hK.now
  have main : ∀ (l : List MapEntry) (m : List (α × Value)) (n : Nat), l.map (fun e => (e.key, e.val)) = m.map (fun p => (K p.1, p.2)) →
      (Instr.findNow d (K a) l n = some none ∧ look m a = none ∧ a ∉ m.map (·.1)) ∨ ∃ (i : Nat) (v : Value), Instr.findNow d (K a) l n = some (some (n + i, v)) ∧ look m a = some v ∧ i < l.length ∧ (∀ u, (put m a u).map (fun p => (K p.1, p.2)) = (l.map (fun e => (e.key, e.val))).set i (K a, u)) ∧ (del m a).map (fun p => (K p.1, p.2)) = (l.map (fun e => (e.key, e.val))).eraseIdx i ∧ (l[i]?).map (·.key) = some (K a) := by
    intro l
    induction l with
    | nil =>
      intro m n h
      cases m with
      | nil => exact .inl ⟨rfl, rfl, by simp⟩
      | cons p r => simp at h
    | cons e l ih =>
      intro m n h
      cases m with
      | nil => simp at h
      | cons p r =>
        simp only [List.map_cons, List.cons.injEq, Prod.mk.injEq] at h
        obtain ⟨⟨e1, e2⟩, h⟩ := h
        by_cases hp : p.1 = a
        · right
          refine ⟨0, e.val, ?_, ?_, by simp, fun u => ?_, ?_, ?_⟩
          · unfold Instr.findNow; rw [e1, hp, h1]; rfl
          · unfold look; rw [if_pos hp, e2]
          · unfold put; rw [if_pos hp]; simp [h]
          · unfold del; rw [if_pos hp]; simp [h]
          · simp [e1, hp]
        · have hs : Instr.sameNow d (K a) e.key = some false := by rw [e1]; exact h2 _ _ (fun x => hp x.symm)
          rcases ih r (n + 1) h with ⟨g1, g2, g3⟩ | ⟨i, v, g1, g2, g3, g4, g5, g6⟩
          · left
            refine ⟨?_, ?_, ?_⟩
            · unfold Instr.findNow; rw [hs]; exact g1
            · unfold look; rw [if_neg hp]; exact g2
            · simp only [List.map_cons, List.mem_cons, not_or]
              exact ⟨fun x => hp x.symm, g3⟩
          · right
            refine ⟨i + 1, v, ?_, ?_, by simp; omega, fun u => ?_, ?_, ?_⟩
            · unfold Instr.findNow; rw [hs]; show Instr.findNow d (K a) l (n + 1) = _; rw [g1]; congr 3; omega
            · unfold look; rw [if_neg hp]; exact g2
            · unfold put; rw [if_neg hp]; simp [g4 u, e1, e2]
            · unfold del; rw [if_neg hp]; simp [g5, e1, e2]
            · simpa using g6
  rcases main l m 0 h with ⟨g1, g2, g3⟩ | ⟨i, v, g1, g2, g3, g4, g5, g6⟩
  · exact ⟨none, run_findKey hd g1, .inl ⟨rfl, g2, g3⟩⟩
  · exact ⟨some (i, v), by rw [run_findKey hd g1, Nat.zero_add], .inr ⟨i, v, rfl, g2, g3, g4, g5, g6⟩⟩
variable {w : World} {b : Nat} {o : Obj} {mt kt et : TypeId} {K : α → Value} {m : List (α × Value)}
theorem MapO.lookup (hK : Kinds P kt K) (hm : P.underlying mt = some (.map kt et)) {z : Value} (hz : (zeroValue et).run P w = .ok z w) (h : MapO K o m) (hb : w.heap[b]? = some o) (a : α) (c : Bool) :
    (Instr.lookup mt (.map (some b)) (K a) c).run P w = .ok (if c then .tuple #[(look m a).getD z, .bool (look m a).isSome] else (look m a).getD z) w := by
  obtain ⟨es, clock, rfl, h1, _⟩ := h
  obtain ⟨r, hr, hc⟩ := find_run hK a w es.toList m h1
  unfold Instr.lookup
  simp only [Sem.run_bind, run_underlying hm, Result.andThen, MapKept.run_getObj_map hb, hK.check, hr]
  rcases hc with ⟨rfl, e1, _⟩ | ⟨i, v, rfl, e1, _⟩
  · rw [e1]
    cases c <;> simp [Sem.run_bind, hr, hz, Result.andThen]
  · rw [e1]
    cases c <;> simp [Sem.run_bind, hr, Result.andThen]
theorem MapO.update (hK : Kinds P kt K) (hm : P.underlying mt = some (.map kt et)) (h : MapO K o m) (hb : w.heap[b]? = some o) (a : α) (v : Value) :
    ∃ o', (Instr.mapUpdate mt (.map (some b)) (K a) v).run P w = .ok () (setBlock w b o') ∧ MapO K o' (put m a v) := by
  obtain ⟨es, clock, rfl, h1, h2, h3⟩ := h
  obtain ⟨r, hr, hc⟩ := find_run hK a w es.toList m h1
  unfold Instr.mapUpdate
  simp only [Sem.run_bind, run_underlying hm, Result.andThen, MapKept.run_getObj_map hb, hK.check, hr]
  rcases hc with ⟨rfl, e1, hn⟩ | ⟨i, v0, rfl, e1, hi, hp, _, hk⟩
  · refine ⟨.map (es.push { key := K a, val := v, born := clock }) (clock + 1), run_setObj_map _ hb, _, _, rfl, ?_, ?_, ?_⟩
    · have : ∀ (m : List (α × Value)), a ∉ m.map (·.1) → put m a v = m ++ [(a, v)] := by
        intro m
        induction m with
        | nil => intro _; rfl
        | cons p r ih =>
          intro hn
          simp only [List.map_cons, List.mem_cons, not_or] at hn
          unfold put
          rw [if_neg (fun e => hn.1 e.symm), ih hn.2]; rfl
      rw [this m hn]
      simp [h1]
    · simp only [Array.toList_push, List.map_append, List.map_cons, List.map_nil]
      refine List.nodup_append.2 ⟨h2, by simp, fun x hx y hy => ?_⟩
      rw [List.mem_singleton.1 hy]
      obtain ⟨e, he, rfl⟩ := List.mem_map.1 hx
      exact Nat.ne_of_lt (h3 e he)
    · intro e he
      simp only [Array.toList_push, List.mem_append, List.mem_singleton] at he
      rcases he with he | rfl
      · exact Nat.lt_succ_of_lt (h3 e he)
      · exact Nat.lt_succ_self _
  · have hk2 : ((es[i]?).map (·.key)).getD (K a) = K a := by
      rw [← Array.getElem?_toList, hk]; rfl
    simp only [hk2, Instr.keyThatStays, hK.stays, if_true, Sem.run_bind, Sem.run, Result.andThen]
    have hil : i < es.size := by simpa using hi
    have el : (es.modify i fun e => { e with key := K a, val := v }).toList = es.toList.set i { es[i] with key := K a, val := v } := by
      apply List.ext_getElem?
      intro j
      simp only [Array.getElem?_toList, Array.getElem?_modify, List.getElem?_set, Array.length_toList]
      by_cases hij : i = j
      · subst hij; simp [hil]
      · simp [hij]
    refine ⟨.map (es.modify i fun e => { e with key := K a, val := v }) clock, run_setObj_map _ hb, _, _, rfl, ?_, ?_, ?_⟩
    · rw [hp v, el, List.map_set]
    · rw [el, List.map_set]
      have : (es.toList.map (·.born)).set i es[i].born = es.toList.map (·.born) := by
        apply List.ext_getElem?
        intro j
        simp only [List.getElem?_set, List.length_map, Array.length_toList]
        by_cases hij : i = j
        · subst hij; simp [hil]
        · simp [hij]
      rw [this]; exact h2
    · intro e he
      rw [el] at he
      rcases List.mem_or_eq_of_mem_set he with he | rfl
      · exact h3 e he
      · exact h3 es[i] (by simp)
theorem MapO.delete (hK : Kinds P kt K) (hm : P.underlying mt = some (.map kt et)) (h : MapO K o m) (hb : w.heap[b]? = some o) (a : α) (ty : TypeId) :
    ∃ o', (Builtin.delete_ #[mt, kt] ty #[.map (some b), K a]).run P w = .ok (.tuple #[]) (setBlock w b o') ∧ MapO K o' (del m a) := by
  obtain ⟨es, clock, rfl, h1, h2, h3⟩ := h
  obtain ⟨r, hr, hc⟩ := find_run hK a w es.toList m h1
  unfold Builtin.delete_
  simp only [List.getElem?_toArray, List.getElem?_cons_zero, List.getElem?_cons_succ, Sem.run_bind, run_underlying hm, Result.andThen, MapKept.run_getObj_map hb, hK.check, hr]
  rcases hc with ⟨rfl, e1, hn⟩ | ⟨i, v0, rfl, e1, hi, _, hd, _⟩
  · refine ⟨.map es clock, by simp [Sem.run_bind, hr, run_setObj_map _ hb, Result.andThen, setBlock], es, clock, rfl, ?_, h2, h3⟩
    have : ∀ (m : List (α × Value)), a ∉ m.map (·.1) → del m a = m := by
      intro m
      induction m with
      | nil => intro _; rfl
      | cons p r ih =>
        intro hn
        simp only [List.map_cons, List.mem_cons, not_or] at hn
        unfold del
        rw [if_neg (fun e => hn.1 e.symm), ih hn.2]
    rw [this m hn]; exact h1
  · have hil : i < es.size := by simpa using hi
    have el : (es.eraseIdxIfInBounds i).toList = es.toList.eraseIdx i := by simp [Array.eraseIdxIfInBounds, hil]
    refine ⟨.map (es.eraseIdxIfInBounds i) clock, by simp [Sem.run_bind, hr, run_setObj_map _ hb, Result.andThen, setBlock], _, clock, rfl, ?_, ?_, ?_⟩
    · rw [hd, el, Go.ChangeMaps.map_eraseIdx]
    · rw [el, Go.ChangeMaps.map_eraseIdx]
      exact h2.sublist (List.eraseIdx_sublist _ _)
    · intro e he
      rw [el] at he
      exact h3 e ((List.eraseIdx_sublist _ _).subset he)
theorem MapO.length (hm : P.underlying mt = some (.map kt et)) (h : MapO K o m) (hb : w.heap[b]? = some o) (ty : TypeId) : (Builtin.len_ #[mt] ty #[.map (some b)]).run P w = .ok (goInt m.length) w := by
  obtain ⟨es, clock, rfl, h1, _⟩ := h
  have hl : es.size = m.length := by
    have := congrArg List.length h1
    simpa using this
  unfold Builtin.len_
  simp [Sem.run_bind, run_underlying hm, Result.andThen, MapKept.run_getObj_map hb, hl, Sem.run]
end
end Go.Proofs.YtkhnkidggcjfeaaGreatDoor
end
section
namespace Go.Proofs.YtkhnkidggcjfeaaGreatDoor
open Go.RowKit
open Go.ChangeMaps (setBlock)
set_option linter.unusedSectionVars false
abbrev Blocks := List (Nat × Obj)
def upd (S : Blocks) (b : Nat) (o : Obj) : Blocks := S.map fun m => if m.1 = b then (b, o) else m
theorem upd_same {S : Blocks} {b : Nat} {o : Obj} (h : (b, o) ∈ S) (o' : Obj) : (b, o') ∈ upd S b o' := by
  unfold upd
  exact List.mem_map.2 ⟨(b, o), h, by simp⟩
theorem upd_other {S : Blocks} {b c : Nat} {x : Obj} (h : (c, x) ∈ S) (hc : c ≠ b) (o' : Obj) : (c, x) ∈ upd S b o' := by
  unfold upd
  exact List.mem_map.2 ⟨(c, x), h, by simp [hc]⟩
theorem setBlock_heap (w : World) (b : Nat) (o : Obj) (hb : b < w.heap.size) : (setBlock w b o).heap[b]? = some o ∧ (∀ c, c ≠ b → (setBlock w b o).heap[c]? = w.heap[c]?) ∧ (setBlock w b o).heap.size = w.heap.size := by
  refine ⟨by simp [setBlock, hb], fun c hc => by simp [setBlock, Ne.symm hc], by simp [setBlock]⟩
theorem grown_setBlock (w : World) (b : Nat) (o : Obj) : w.grownBy (setBlock w b o) (some b) :=
  ⟨rfl, rfl, rfl, by simp [setBlock], fun c _ hne => by
    have hbc : b ≠ c := fun e => hne (by rw [e])
    simp [setBlock, hbc]⟩
section
variable {w0 w : World} {S : Blocks} {L : List Rw} {b : Nat} {o : Obj}
theorem Own.at (h : Own ⟨w0, S⟩ w L) (hb : (b, o) ∈ S) : w.heap[b]? = some o := (h.maps _ hb).2
theorem Own.atLt (h : Own ⟨w0, S⟩ w L) (hb : (b, o) ∈ S) : w0.heap.size ≤ b ∧ b < w.heap.size := ⟨(h.maps _ hb).1, lt_of_heap (h.maps _ hb).2⟩
theorem Own.uniq (h : Own ⟨w0, S⟩ w L) {o' : Obj} (hb : (b, o) ∈ S) (hb' : (b, o') ∈ S) : o = o' := Option.some.inj ((h.at hb).symm.trans (h.at hb'))
theorem Own.setB (h : Own ⟨w0, S⟩ w L) (hb : (b, o) ∈ S) (o' : Obj) : Own ⟨w0, upd S b o'⟩ (setBlock w b o') L := by
  have hlt := (h.atLt hb).2
  obtain ⟨s1, s2, s3⟩ := setBlock_heap w b o' hlt
  have hg := grown_setBlock w b o'
  refine ⟨h.below.grown hg h.size (fun k hk => by cases hk; exact (h.maps _ hb).1), fun p hp => ?_, h.apart, fun m hm => ?_, fun m hm p hp => ?_⟩
  · refine (h.rows p hp).kept hg ?_
    by_cases hpn : p.v.ownBlock = none
    · exact .inl hpn
    · exact .inr (h.offmaps _ hb p hp)
  · obtain ⟨m1, hm1, rfl⟩ := List.mem_map.1 hm
    split
    · exact ⟨(h.maps _ hb).1, s1⟩
    · rename_i hne
      exact ⟨(h.maps m1 hm1).1, (s2 _ hne).trans (h.maps m1 hm1).2⟩
  · obtain ⟨m1, hm1, rfl⟩ := List.mem_map.1 hm
    split
    · exact h.offmaps _ hb p hp
    · exact h.offmaps m1 hm1 p hp
theorem Own.newB (h : Own ⟨w0, S⟩ w L) (o : Obj) : Own ⟨w0, (w.heap.size, o) :: S⟩ (w.alloc o) L := by
  have h1 := h.alloc o
  refine ⟨h1.below, h1.rows, h1.apart, fun m hm => ?_, fun m hm p hp => ?_⟩
  · rcases List.mem_cons.1 hm with rfl | hm
    · exact ⟨h.size, (MapKept.heap_alloc w _).1⟩
    · exact h1.maps m hm
  · rcases List.mem_cons.1 hm with rfl | hm
    · intro e
      have := (h.lt hp e).2
      exact absurd this (Nat.lt_irrefl _)
    · exact h1.offmaps m hm p hp
theorem Own.forget {S' : Blocks} (h : Own ⟨w0, S⟩ w L) (hs : ∀ m ∈ S', m ∈ S) : Own ⟨w0, S'⟩ w L :=
  ⟨h.below, h.rows, h.apart, fun m hm => h.maps m (hs m hm), fun m hm => h.offmaps m (hs m hm)⟩
theorem Own.cellB {c : Array Value} {T : TypeId} (h : Own ⟨w0, S⟩ w L) (hb : (b, .cells c T) ∈ S) (j : Nat) : w.cell? ⟨b, j, none⟩ = c[j]? := by
  have := h.at hb
  unfold World.cell?
  rw [this]; rfl
theorem cell_at {w : World} {c : Array Value} {T : TypeId} (h : w.heap[b]? = some (.cells c T)) (j : Nat) : w.cell? ⟨b, j, none⟩ = c[j]? := by
  unfold World.cell?
  rw [h]; rfl
theorem free_at {w : World} {c : Array Value} {T : TypeId} (h : w.heap[b]? = some (.cells c T)) (j : Nat) : w.frozen? ⟨b, j, none⟩ = false := by
  unfold World.frozen?
  rw [h]
  simp
theorem set_at {w : World} {c : Array Value} {T : TypeId} (h : w.heap[b]? = some (.cells c T)) (j : Nat) (v : Value) : w.setCell ⟨b, j, none⟩ v = setBlock w b (.cells (c.setIfInBounds j v) T) := by
  unfold World.setCell
  have hlt := lt_of_heap h
  simp only [setBlock, World.mk.injEq, true_and, and_true]
  apply Array.ext_getElem?
  intro i
  rw [Array.getElem?_modify, Array.getElem?_setIfInBounds]
  by_cases hi : b = i
  · subst hi
    rw [if_pos rfl, if_pos rfl, if_pos hlt, h]; rfl
  · rw [if_neg hi, if_neg hi]
theorem Own.storeB {c : Array Value} {T : TypeId} (h : Own ⟨w0, S⟩ w L) (hb : (b, .cells c T) ∈ S) (j : Nat) (v : Value) : Own ⟨w0, upd S b (.cells (c.setIfInBounds j v) T)⟩ (w.setCell ⟨b, j, none⟩ v) L := by
  rw [set_at (h.at hb)]
  exact h.setB hb _
end
/-! ### A map that is gone through -/
section
variable {P : Program} {α : Type} [DecidableEq α] {K : α → Value}
def IterO (K : α → Value) (oi : Obj) (b : Nat) (o : Obj) (m left : List (α × Value)) : Prop :=
  ∃ es clock since seen c0, o = .map es clock ∧ oi = .mapIter (some b) since seen c0 ∧ es.toList.map (fun e => (e.key, e.val)) = m.map (fun p => (K p.1, p.2)) ∧ (es.toList.map (·.born)).Nodup ∧ (∀ e ∈ es.toList, e.born < clock) ∧
    (∀ e ∈ es.toList, e.born < since) ∧ since ≤ c0 ∧ since ≤ clock ∧ (leftOf es seen).toList.map (fun e => (e.key, e.val)) = left.map (fun p => (K p.1, p.2))
theorem MapO.range {w : World} {b : Nat} {o : Obj} {mt kt et : TypeId} {m : List (α × Value)} (hm : P.underlying mt = some (.map kt et)) (h : MapO K o m) (hb : w.heap[b]? = some o) :
    ∃ oi, (Instr.range mt (.map (some b))).run P w = .ok (.pointer (some ⟨w.heap.size, 0, none⟩)) (w.alloc oi) ∧ IterO K oi b o m m := by
  obtain ⟨es, clock, rfl, h1, h2, h3⟩ := h
  refine ⟨.mapIter (some b) clock #[] clock, run_range_map w mt kt et b es clock hm hb, es, clock, clock, #[], clock, rfl, rfl, h1, h2, h3, h3, Nat.le_refl _, Nat.le_refl _, ?_⟩
  have : leftOf es #[] = es := by simp [leftOf]
  rw [this]; exact h1
theorem map_split {β γ : Type} (f : β → γ) (l : List β) (x : List γ) (y : γ) (z : List γ) (h : l.map f = x ++ y :: z) : ∃ a p c, l = a ++ p :: c ∧ a.map f = x ∧ f p = y ∧ c.map f = z := by
  obtain ⟨a, r, e1, e2, e3⟩ := List.map_eq_append_iff.1 h
  cases r with
  | nil => simp at e3
  | cons p c =>
    simp only [List.map_cons, List.cons.injEq] at e3
    exact ⟨a, p, c, e1, e2, e3.1, e3.2⟩
theorem IterO.next {w : World} {b r : Nat} {o oi : Obj} {m left : List (α × Value)} (ty : TypeId) (h : IterO K oi b o m left) (hr : w.heap[r]? = some oi) (hb : w.heap[b]? = some o) :
    (left = [] ∧ (Instr.next (.pointer (some ⟨r, 0, none⟩)) false ty).run P w = .ok (.tuple #[.bool false]) w) ∨
    ∃ l1 p l2 w1 oi', left = l1 ++ p :: l2 ∧ (w1 = w ∨ w1 = w.drew) ∧ (Instr.next (.pointer (some ⟨r, 0, none⟩)) false ty).run P w = .ok (.tuple #[.bool true, K p.1, p.2]) (setBlock w1 r oi') ∧ IterO K oi' b o m (l1 ++ l2) ∧
      (∀ u : World, u.heap[r]? = some oi' → u.heap[b]? = some o → (Instr.entry (.pointer (some ⟨r, 0, none⟩))).run P u = .ok (.tuple #[K p.1, p.2]) u) := by
  obtain ⟨es, clock, since, seen, c0, rfl, rfl, h1, h2, h3, h4, h5, h6, h7⟩ := h
  rcases run_next_at (P := P) w ty r b since c0 seen es clock hr hb h4 h5 with ⟨g1, g2⟩ | ⟨e, he, w1, hw1, g2⟩
  · left
    refine ⟨?_, g2⟩
    have : (leftOf es seen).toList = [] := by
      apply List.eq_nil_of_length_eq_zero; simpa using g1
    rw [this] at h7
    exact List.map_eq_nil_iff.1 h7.symm
  · right
    obtain ⟨x, z, hxz⟩ := List.append_of_mem he
    rw [hxz, List.map_append, List.map_cons] at h7
    obtain ⟨a, p, c, e1, e2, e3, e4⟩ := map_split _ left _ _ _ h7.symm
    have e5 : e.key = K p.1 ∧ e.val = p.2 := by
      have := e3
      simp only [Prod.mk.injEq] at this
      exact ⟨this.1.symm, this.2.symm⟩
    have hmem : e ∈ es.toList := by
      have : e ∈ leftOf es seen := by simpa using he
      unfold leftOf at this
      simp at this ⊢
      exact this.1
    have hnd : ∀ y ∈ (x ++ z), y.born ≠ e.born := by
      have hsub : (leftOf es seen).toList.Sublist es.toList := by unfold leftOf; simp
      have hn := h2.sublist (hsub.map (·.born))
      rw [hxz, List.map_append, List.map_cons] at hn
      intro y hy e6
      have hn' := (List.perm_middle.nodup_iff).1 hn
      rw [List.nodup_cons, ← List.map_append] at hn'
      exact hn'.1 (List.mem_map.2 ⟨y, hy, e6⟩)
    have hl : (leftOf es (seen.push e.born)).toList = x ++ z := by
      have : leftOf es (seen.push e.born) = (leftOf es seen).filter fun y => !(y.born == e.born) := by
        unfold leftOf
        rw [Array.filter_filter]
        congr 1
        funext y
        simp only [Array.contains_push, Bool.not_or]
        cases h9 : (y.born == e.born) <;> cases h10 : seen.contains y.born <;> simp_all
        all_goals (try (have := h9; simp [eq_comm] at this ⊢; exact this))
      rw [this, Array.toList_filter, hxz, List.filter_append, List.filter_cons]
      have f1 : x.filter (fun y => !(y.born == e.born)) = x := List.filter_eq_self.2 fun y hy => by simp [hnd y (List.mem_append_left _ hy)]
      have f2 : z.filter (fun y => !(y.born == e.born)) = z := List.filter_eq_self.2 fun y hy => by simp [hnd y (List.mem_append_right _ hy)]
      rw [f1, f2]; simp
    refine ⟨a, p, c, w1, .mapIter (some b) since (seen.push e.born) clock, e1, hw1, by rw [g2, e5.1, e5.2], ⟨es, clock, since, _, clock, rfl, rfl, h1, h2, h3, h4, h6, h6, ?_⟩, fun u hu hub => ?_⟩
    · rw [hl, List.map_append, List.map_append, e2, e4]
    · rw [run_entry_at (P := P) u r b since seen es clock e hu hub hmem h2, e5.1, e5.2]
end
end Go.Proofs.YtkhnkidggcjfeaaGreatDoor
end
section
namespace Go.Proofs.YtkhnkidggcjfeaaGreatDoor
open Go.RowKit
abbrev toB (l : List UInt8) : ByteArray := ⟨l.toArray⟩
theorem toB_size (l : List UInt8) : (toB l).size = l.length := by simp [ByteArray.size]
theorem toB_inj {a b : List UInt8} (h : toB a = toB b) : a = b := by
  have := congrArg (fun s : ByteArray => s.data.toList) h
  simpa using this
def letB (c : UInt8) : Bool := decide (97 ≤ c.toNat ∧ c.toNat ≤ 122 ∨ 48 ≤ c.toNat ∧ c.toNat ≤ 57 ∨ c.toNat = 45 ∨ c.toNat = 46 ∨ c.toNat = 95)
def letR (r : Int) : Bool := decide (97 ≤ r ∧ r ≤ 122 ∨ 48 ≤ r ∧ r ≤ 57 ∨ r = 45 ∨ r = 46 ∨ r = 95)
theorem letR_low (c : UInt8) : letR (c.toNat : Int) = letB c := by
  unfold letR letB
  rw [Bool.eq_iff_iff, decide_eq_true_iff, decide_eq_true_iff]; omega
theorem letR_high (r : Int) (h : 128 ≤ r) : letR r = false := by
  unfold letR; rw [decide_eq_false_iff_not]; omega
theorem letB_high (c : UInt8) (h : 128 ≤ c.toNat) : letB c = false := by
  unfold letB; rw [decide_eq_false_iff_not]; omega
theorem letB_slash : letB 47 = false := by decide
def nameL (l : List UInt8) : Bool := decide (1 ≤ l.length ∧ l.length ≤ 12 ∧ l ≠ [46] ∧ l ≠ [46, 46]) && l.all letB
theorem nameL_no_slash {l : List UInt8} (h : nameL l = true) : (47 : UInt8) ∉ l := by
  unfold nameL at h
  simp only [Bool.and_eq_true, List.all_eq_true] at h
  intro hm
  have := h.2 47 hm
  rw [letB_slash] at this; cases this
def glue (p : List UInt8) : List (List UInt8) → List (List UInt8)
  | [] => [p]
  | q :: r => (p ++ q) :: r
def partsL : List UInt8 → List (List UInt8)
  | [] => [[]]
  | c :: l => if c = 47 then [] :: partsL l else glue [c] (partsL l)
theorem partsL_ne (l : List UInt8) : partsL l ≠ [] := by
  cases l with
  | nil => simp [partsL]
  | cons c l => unfold partsL; split <;> simp [glue]; split <;> simp
theorem glue_length (a : List UInt8) {r : List (List UInt8)} (h : r ≠ []) : (glue a r).length = r.length := by
  cases r with
  | nil => exact absurd rfl h
  | cons b r => rfl
theorem partsL_length (l : List UInt8) : 1 ≤ (partsL l).length ∧ (partsL l).length ≤ l.length + 1 := by
  induction l with
  | nil => simp [partsL]
  | cons c l ih =>
    unfold partsL
    split
    · simp; omega
    · rw [glue_length _ (partsL_ne l)]; simp; omega
theorem parts_le (l : List UInt8) : ∀ p ∈ partsL l, p.length ≤ l.length := by
  induction l with
  | nil => simp [partsL]
  | cons c l ih =>
    unfold partsL
    split
    · intro p hp
      rcases List.mem_cons.1 hp with rfl | hp
      · simp
      · have := ih p hp; simp; omega
    · have hne := partsL_ne l
      generalize partsL l = r at *
      cases r with
      | nil => exact absurd rfl hne
      | cons q r =>
        intro p hp
        rcases List.mem_cons.1 hp with rfl | hp
        · have := ih q (List.mem_cons_self ..); simp; omega
        · have := ih p (List.mem_cons_of_mem _ hp); simp; omega
theorem splitK_parts (l : List UInt8) : Lib.splitK [47] 0 (Lib.count l [47]) l = partsL l := by
  have main : ∀ (c : UInt8) (l : List UInt8), c ≠ 47 → ∀ k, Lib.splitK [47] 0 k (c :: l) = glue [c] (Lib.splitK [47] 0 k l) := by
    intro c l hc k
    cases k with
    | zero => rfl
    | succ k =>
      have hp : ([47] : List UInt8).isPrefixOf (c :: l) = false := by simp [List.isPrefixOf, Ne.symm hc]
      have hix : Lib.index (c :: l) [47] = if Lib.index l [47] == -1 then -1 else Lib.index l [47] + 1 := by rw [Lib.index, hp]; simp
      by_cases hm : Lib.index l [47] = -1
      · unfold Lib.splitK
        rw [hix, hm]; rfl
      · have hge := Lib.index_ge l [47]
        obtain ⟨j, hj⟩ : ∃ j : Nat, Lib.index l [47] = j := ⟨(Lib.index l [47]).toNat, by omega⟩
        have h1 : ¬ ((j : Int) == -1) = true := fun e => by have := beq_iff_eq.1 e; omega
        have h2 : ¬ ((j : Int) + 1 == -1) = true := fun e => by have := beq_iff_eq.1 e; omega
        unfold Lib.splitK
        rw [hix, hj, if_neg h1, if_neg h2]
        have e1 : ((j : Int) + 1).toNat = j + 1 := by omega
        rw [e1]
        simp only [Int.toNat_natCast, Nat.add_zero, List.length_singleton, List.take_succ_cons, List.drop_succ_cons, glue, h1]
        rfl
  induction l with
  | nil => rw [Lib.count_miss (by simp [Lib.index])]; rfl
  | cons c l ih =>
    by_cases hc : c = 47
    · subst hc
      rw [Lib.count_cons_eq, Nat.add_comm]
      have hix : Lib.index (47 :: l) [47] = 0 := by rw [Lib.index]; simp [List.isPrefixOf]
      unfold Lib.splitK partsL
      rw [hix, if_pos rfl, ← ih]; rfl
    · rw [Lib.count_cons_ne c 47 l hc, main c l hc, ih]
      unfold partsL
      rw [if_neg hc]
      cases l <;> rfl
def okP (l : List UInt8) : Bool := decide (l = [47]) || (decide (l.length ≤ 40) && decide (l.head? = some 47) && decide ((partsL l.tail).length ≤ 5) && (partsL l.tail).all nameL)
def namesL (l : List UInt8) : List (List UInt8) := if l = [47] then [] else if okP l then partsL l.tail else []
theorem splitB_parts (s sep : ByteArray) (h : sep = toB [47]) : Lib.splitB sep 0 (Lib.countB s sep) s = (partsL s.data.toList).map toB := by
  subst h
  have h1 := Lib.splitB_data (toB [47]) 0 (Lib.countB s (toB [47])) s
  have h2 : Lib.countB s (toB [47]) = Lib.count s.data.toList [47] := rfl
  rw [h2] at h1 ⊢
  rw [splitK_parts] at h1
  rw [← h1, List.map_map]
  exact (List.map_id' _).symm
end Go.Proofs.YtkhnkidggcjfeaaGreatDoor
end
section
namespace Go.Proofs.YtkhnkidggcjfeaaGreatDoor
open Go.RowKit
theorem letR_yes {r : Int} (h : 97 ≤ r ∧ r ≤ 122 ∨ 48 ≤ r ∧ r ≤ 57 ∨ r = 45 ∨ r = 46 ∨ r = 95) : letR r = true := decide_eq_true h
theorem letR_no {r : Int} (h : ¬ (97 ≤ r ∧ r ≤ 122 ∨ 48 ≤ r ∧ r ≤ 57 ∨ r = 45 ∨ r = 46 ∨ r = 95)) : letR r = false := decide_eq_false h
theorem letter_any (r : Int) (w : World) : Calls Tryz.prog 178 #[.int .i32 r] w fun e w' => e = .returned (.bool (letR r)) ∧ w = w' := by
  go_enter Tryz.func178, Tryz.ntmps178
  go_wp2
  all_goals
    go_ret
    refine ⟨?_, rfl⟩
    try simp only [beq_iff_eq, beq_eq_false_iff_ne, ne_eq] at *
    first
      | (have h := letR_yes (r := r) (by omega); rw [h]; rfl)
      | (have h := letR_no (r := r) (by omega); rw [h]; rfl)
theorem nameL_no {l : List UInt8} (h : ¬ (1 ≤ l.length ∧ l.length ≤ 12 ∧ l ≠ [46] ∧ l ≠ [46, 46])) : nameL l = false := by
  unfold nameL; rw [decide_eq_false h]; rfl
theorem nameL_yes {l : List UInt8} (h1 : 1 ≤ l.length) (h2 : l.length ≤ 12) (h3 : l ≠ [46]) (h4 : l ≠ [46, 46]) : nameL l = l.all letB := by
  unfold nameL; rw [decide_eq_true ⟨h1, h2, h3, h4⟩]; rfl
theorem take_all_succ (s : ByteArray) (k : Nat) (h : k < s.size) : (s.data.toList.take (k + 1)).all letB = ((s.data.toList.take k).all letB && letB s[k]) := by
  have e : s.data.toList.take (k + 1) = s.data.toList.take k ++ [s[k]] := by rw [List.take_succ_eq_append_getElem (by simpa using h)]; rfl
  rw [e]; simp
theorem all_no (s : ByteArray) (k : Nat) (h : k < s.size) (hl : letB s[k] = false) : s.data.toList.all letB = false := by
  rw [List.all_eq_false]
  exact ⟨s[k], by show s.data.toList[k]'(by simpa using h) ∈ _; exact List.getElem_mem _, by rw [hl]; decide⟩
theorem name_front (s : ByteArray) : (1 ≤ s.size ∧ s.size ≤ 12 ∧ (s.toList == [46]) = false ∧ (s.toList == [46, 46]) = false) ∨ nameL s.data.toList = false ∧ (s.size < 1 ∨ 12 < s.size ∨ (s.toList == [46]) = true ∧ s.size = 1 ∨ (s.toList == [46, 46]) = true ∧ s.size = 2 ∧ (s.toList == [46]) = false) := by
  have e := Lib.size_eq s
  rw [Lib.toList_data]
  generalize s.data.toList = l at *
  by_cases h1 : 1 ≤ s.size
  · by_cases h2 : s.size ≤ 12
    · by_cases h3 : l = [46]
      · refine .inr ⟨nameL_no (by simp [h3]), .inr (.inr (.inl ⟨beq_iff_eq.2 h3, by rw [e, h3]; rfl⟩))⟩
      · by_cases h4 : l = [46, 46]
        · refine .inr ⟨nameL_no (by simp [h4]), .inr (.inr (.inr ⟨beq_iff_eq.2 h4, by rw [e, h4]; rfl, by simp [h3]⟩))⟩
        · exact .inl ⟨h1, h2, by simp [h3], by simp [h4]⟩
    · exact .inr ⟨nameL_no (by omega), .inr (.inl (by omega))⟩
  · exact .inr ⟨nameL_no (by omega), .inl (by omega)⟩
theorem name_all {s : ByteArray} (h1 : 1 ≤ s.size) (h2 : s.size ≤ 12) (h3 : (s.toList == [46]) = false) (h4 : (s.toList == [46, 46]) = false) : nameL s.data.toList = s.data.toList.all letB := by
  rw [Lib.toList_data] at h3 h4
  have e := Lib.size_eq s
  exact nameL_yes (by omega) (by omega) (by simpa using h3) (by simpa using h4)
end Go.Proofs.YtkhnkidggcjfeaaGreatDoor
end
section
namespace Go.Proofs.YtkhnkidggcjfeaaGreatDoor
open Go.RowKit
theorem iterPos_at {w : World} {k : Nat} {s : ByteArray} {p : Nat} (h : w.heap[k]? = some (.stringIter s p)) : w.iterPos k = p := by simp [World.iterPos, h]
set_option maxHeartbeats 2000000 in
theorem name_any (s : ByteArray) (w : World) (hs : s.size ≤ maxLen) : Calls Tryz.prog 116 #[.string s] w fun e w' => e = .returned (.bool (nameL s.data.toList)) ∧ Below w.heap.size w w' := by
  unfold maxLen at hs
  rcases name_front s with ⟨h1, h2, h3, h4⟩ | ⟨hn, hh⟩
  · have HN := Lib.hid (name_all h1 h2 h3 h4)
    have h0 : (s.toList == []) = false := by
      rw [Lib.toList_data, beq_eq_false_iff_ne]; intro e; have h5 := Lib.size_eq s; rw [e] at h5; have h6 : s.size = 0 := h5; omega
    have h00 : s.toList ≠ [] := by simpa using h0
    go_enter Tryz.func116, Tryz.ntmps116
    go_wp2
    go_loopw [4] (fun v wr => ∃ pos : Nat, pos ≤ s.size ∧ wr.heap[w.heap.size]? = some (.stringIter s pos) ∧ Below w.heap.size w wr ∧ Hid ((s.data.toList.take pos).all letB = true)) (fun _ wr => s.size - wr.iterPos w.heap.size)
    case atStart => exact ⟨0, Nat.zero_le _, World.iter_heap w s 0, (Below.refl _ _).alloc (Nat.le_refl _) _, rfl⟩
    case round =>
      obtain ⟨pos, hpos, hit, hbw, HA⟩ := hrel
      have hpos0 := iterPos_at hit
      by_cases hp : pos < s.size
      · have hit1 : ∀ q, (wr.iterAt w.heap.size s q).heap[w.heap.size]? = some (.stringIter s q) := fun q => Lib.iterAt_heap wr w.heap.size s pos q hit
        have hbw1 : ∀ q, Below w.heap.size w (wr.iterAt w.heap.size s q) := fun q => Lib.below_iterAt hbw (k := w.heap.size) (Nat.le_refl _) s q
        by_cases ha : (s[pos]'hp).toNat < 128
        · have hnx : ∀ ty, (Instr.next (.pointer (some ⟨w.heap.size, 0, none⟩)) true ty).run Tryz.prog wr = _ := fun ty => Lib.run_next_ascii_at wr w.heap.size s pos ty hit hp ha
          have hbw2 := hbw1 (pos + 1)
          have hit2 := hit1 (pos + 1)
          generalize wr.iterAt w.heap.size s (pos + 1) = W1 at *
          have HS := Lib.hid (take_all_succ s pos hp)
          have HF := Lib.hid (all_no s pos hp)
          have HL := Lib.hid (letR_low s[pos])
          by_cases hl : letB s[pos] = true
          · have HR : letR (s[pos].toNat : Int) = true := by rw [HL.out]; exact hl
            go_wp2_with (go_at_call 178; refine (letter_any _ _).mono ?_; rintro e w' ⟨rfl, rfl⟩)
            go_roundw
            case rel => exact ⟨pos + 1, by omega, hit2, hbw2, by show (s.data.toList.take (pos + 1)).all letB = true; rw [HS.out, HA.out, hl]; rfl⟩
            case measure => rw [iterPos_at hit2, hpos0]; omega
          · have HR : letR (s[pos].toNat : Int) = false := by rw [HL.out]; simpa using hl
            go_wp2_with (go_at_call 178; refine (letter_any _ _).mono ?_; rintro e w' ⟨rfl, rfl⟩)
            go_ret
            exact ⟨by rw [HN.out, HF.out (by simpa using hl)]; rfl, hbw2⟩
        · have hnx : ∀ ty, (Instr.next (.pointer (some ⟨w.heap.size, 0, none⟩)) true ty).run Tryz.prog wr = _ := fun ty => Lib.run_next_any_at wr w.heap.size s pos ty hit hp
          have HR : letR ((Utf8.decode s pos).1 : Int) = false := letR_high _ (by have := (decode_high s pos hp (by omega)).1; omega)
          have hbw2 := hbw1 (pos + (Utf8.decode s pos).2)
          generalize wr.iterAt w.heap.size s (pos + (Utf8.decode s pos).2) = W1 at *
          have HF := Lib.hid (all_no s pos hp (letB_high _ (by omega)))
          generalize (Utf8.decode s pos).1 = r at *
          go_wp2_with (go_at_call 178; refine (letter_any _ _).mono ?_; rintro e w' ⟨rfl, rfl⟩)
          go_ret
          exact ⟨by rw [HN.out, HF.out]; rfl, hbw2⟩
      · have hnx : ∀ ty, (Instr.next (.pointer (some ⟨w.heap.size, 0, none⟩)) true ty).run Tryz.prog wr = _ := fun ty => Lib.run_next_end_at wr w.heap.size s pos ty hit hp
        have HT := Lib.hid (show s.data.toList.take pos = s.data.toList from List.take_of_length_le (by rw [← Lib.size_eq]; omega))
        go_wp2
        go_ret
        exact ⟨by rw [HN.out, ← HT.out, HA.out]; rfl, hbw⟩
  · rw [hn]
    have h0 : s.toList = [] ∧ (s.toList == []) = true ∨ s.toList ≠ [] ∧ (s.toList == []) = false ∧ 1 ≤ s.size := by
      by_cases h5 : s.toList = []
      · exact .inl ⟨h5, beq_iff_eq.2 h5⟩
      · refine .inr ⟨h5, beq_eq_false_iff_ne.2 h5, ?_⟩
        rw [Lib.toList_data] at h5
        rw [Lib.size_eq]
        exact List.length_pos_iff.2 h5
    have hz : s.size = s.toList.length := by rw [Lib.toList_data]; exact Lib.size_eq s
    have HZ := Lib.hid hz
    clear hz
    rcases h0 with ⟨h5, h6⟩ | ⟨h5, h6, h7⟩
    · go_enter Tryz.func116, Tryz.ntmps116
      go_wp2
      go_ret
      exact ⟨rfl, Below.refl _ _⟩
    · by_cases h8 : (s.toList == [46]) = true
      · have h8' := beq_iff_eq.1 h8
        go_enter Tryz.func116, Tryz.ntmps116
        go_wp2
        go_ret
        exact ⟨rfl, Below.refl _ _⟩
      · have h8a : (s.toList == [46]) = false := by simpa using h8
        by_cases h9 : (s.toList == [46, 46]) = true
        · have h9' := beq_iff_eq.1 h9
          clear h8
          go_enter Tryz.func116, Tryz.ntmps116
          go_wp2
          go_ret
          exact ⟨rfl, Below.refl _ _⟩
        · have h9a : (s.toList == [46, 46]) = false := by simpa using h9
          have h10 : 12 < s.size := by
            rcases hh with h | h | ⟨h, h'⟩ | ⟨h, h', h''⟩
            · omega
            · exact h
            · rw [h8a] at h; cases h
            · rw [h9a] at h; cases h
          clear h8 h9 hh
          go_enter Tryz.func116, Tryz.ntmps116
          go_wp2
          go_ret
          exact ⟨rfl, Below.refl _ _⟩
end Go.Proofs.YtkhnkidggcjfeaaGreatDoor
end
