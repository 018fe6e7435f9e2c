/- Texts one behind the other, each in a section of its own: what calls make of memory, step by step. -/
import Derived.Test.YtkhnkidggcjfeaaGreatDoorPackNeedHits16
import Derived.Deep.RegionWith
import Derived.Deep.DeepCutAuto
set_option linter.unusedVariables false
set_option linter.unusedSimpArgs false
set_option maxRecDepth 100000
section
namespace Go.Proofs.YtkhnkidggcjfeaaGreatDoor
open Go.RowKit
open Go.ChangeMaps (setBlock)
theorem del_filter9 {β : Type} {m : List (Int × β)} (hd : (m.map (·.1)).Nodup) (a : Int) : del m a = m.filter fun p => !decide (p.1 = a) := by
  induction m with
  | nil => rfl
  | cons q r ih =>
    have hd' := List.nodup_cons.1 (show (q.1 :: r.map (·.1)).Nodup from hd)
    unfold del
    by_cases hq : q.1 = a
    · rw [if_pos hq, List.filter_cons, decide_eq_true hq]
      simp only [Bool.not_true, Bool.false_eq_true, if_false]
      refine (List.filter_eq_self.2 fun x hx => ?_).symm
      have : x.1 ≠ a := fun e => hd'.1 (by rw [hq, ← e]; exact List.mem_map.2 ⟨x, hx, rfl⟩)
      simp [this]
    · rw [if_neg hq, List.filter_cons, decide_eq_false hq, ih hd'.2]
      simp
theorem reapE_filter (ids : List Int) : ∀ (E : Et), (E.nodes.map (·.1)).Nodup → ids.Nodup → (∀ i ∈ ids, ∃ n, look E.nodes i = some n ∧ n.loose = true) → reapE E ids = { E with nodes := E.nodes.filter fun p => !ids.contains p.1 } := by
  induction ids with
  | nil =>
    intro E _ _ _
    show E = _
    have : (E.nodes.filter fun p => !([] : List Int).contains p.1) = E.nodes := List.filter_eq_self.2 fun x _ => rfl
    rw [this]
  | cons i r ih =>
    intro E hd hn hl
    have hn' := List.nodup_cons.1 hn
    obtain ⟨n, h1, h2⟩ := hl i (List.mem_cons_self ..)
    have hr1 : reap1 E i = { E with nodes := del E.nodes i } := by
      unfold reap1
      rw [h1]
      simp only
      rw [if_pos h2]
    show reapE (reap1 E i) r = _
    rw [hr1, ih _ (hd.sublist ((del_sub E.nodes i).map _)) hn'.2 (fun j hj => by
      obtain ⟨m, h3, h4⟩ := hl j (List.mem_cons_of_mem _ hj)
      exact ⟨m, by rw [look_del_ne (fun e : j = i => hn'.1 (by rw [← e]; exact hj))]; exact h3, h4⟩)]
    show ({ E with nodes := (del E.nodes i).filter _ } : Et) = _
    rw [del_filter9 hd, List.filter_filter]
    congr 1
    refine List.filter_congr fun x _ => ?_
    rw [List.contains_cons]
    cases h : decide (x.1 = i) <;> simp_all
def sweepE (E : Et) (held : List (Int × Int)) : Et := { E with nodes := E.nodes.filter fun p => !(p.2.loose && !decide (0 < heldN held p.1)) }
theorem looseE_len (nodes : List (Int × ENd)) : (looseE nodes).length ≤ nodes.length := by
  unfold looseE
  rw [List.length_map]
  exact List.length_filter_le ..
theorem look_of_mem9 {β : Type} {m : List (Int × β)} (hd : (m.map (·.1)).Nodup) {p : Int × β} (hp : p ∈ m) : look m p.1 = some p.2 := by
  induction m with
  | nil => cases hp
  | cons q r ih =>
    have hd' := List.nodup_cons.1 (show (q.1 :: r.map (·.1)).Nodup from hd)
    unfold look
    rcases List.mem_cons.1 hp with rfl | hp
    · rw [if_pos rfl]
    · rw [if_neg (fun e => hd'.1 (by rw [e]; exact List.mem_map.2 ⟨p, hp, rfl⟩))]
      exact ih hd'.2 hp
theorem mem_looseE {nodes : List (Int × ENd)} {i : Int} : i ∈ looseE nodes ↔ ∃ n, (i, n) ∈ nodes ∧ n.loose = true := by
  unfold looseE ENd.loose
  constructor
  · intro h
    obtain ⟨p, hp, rfl⟩ := List.mem_map.1 h
    obtain ⟨h1, h2⟩ := List.mem_filter.1 hp
    exact ⟨p.2, h1, by simpa using h2⟩
  · rintro ⟨n, h1, h2⟩
    exact List.mem_map.2 ⟨(i, n), List.mem_filter.2 ⟨h1, by simpa using h2⟩, rfl⟩
theorem sweep_eq {E : Et} {zs : List Int} (hd : (E.nodes.map (·.1)).Nodup) (hp : zs.Perm (looseE E.nodes)) (held : List (Int × Int)) : reapE E (zs.filter fun i => !decide (0 < heldN held i)) = sweepE E held := by
  have hnz : zs.Nodup := hp.nodup_iff.2 (by
    unfold looseE
    exact hd.sublist (List.filter_sublist.map _))
  rw [reapE_filter _ E hd (hnz.sublist List.filter_sublist) (fun i hi => by
    obtain ⟨n, h1, h2⟩ := mem_looseE.1 (hp.subset (List.mem_filter.1 hi).1)
    exact ⟨n, look_of_mem9 hd h1, h2⟩)]
  unfold sweepE
  congr 1
  refine List.filter_congr fun p hpm => ?_
  have key : (zs.filter fun i => !decide (0 < heldN held i)).contains p.1 = (p.2.loose && !decide (0 < heldN held p.1)) := by
    rw [Bool.eq_iff_iff, List.contains_iff_mem, List.mem_filter, Bool.and_eq_true]
    constructor
    · rintro ⟨h1, h2⟩
      obtain ⟨n, h3, h4⟩ := mem_looseE.1 (hp.subset h1)
      have h5 := look_of_mem9 hd h3
      rw [look_of_mem9 hd hpm] at h5
      injection h5 with h5
      exact ⟨by rw [h5]; exact h4, h2⟩
    · rintro ⟨h1, h2⟩
      exact ⟨hp.symm.subset (mem_looseE.2 ⟨p.2, hpm, h1⟩), h2⟩
  rw [key]
abbrev doneS (X : VX) (ops : List OpD) (xs : List OpE) (D' : Dk) : VX :=
  { X with E := sweepE (DoE X.E xs).2 X.held, B := X.B + xs.length, D := D', used := X.used + roomM (recO (pks ops xs)).length, recs := X.recs ++ [recO (pks ops xs)], st := X.st + 100 }
section
variable {w0 w w' : World} {S S' S1 : Blocks} {R L L' L1 M : List Rw} {v c n : Nat} {X X' X1 X2 : VX} {T T' Tc T1 : Tr} {K : Blocks} {sv : Value} {zs : List Int}
theorem VolIn.push (h : VolIn w0 S R L v X T w) {w1 : World} {r : Rw} (hO : Own ⟨w0, S⟩ w1 (r :: (R ++ L))) : VolIn w0 S R (r :: L) v X T w1 :=
  { h with
    own := hO.perm List.perm_middle.symm
    tree := h.tree.mono (fun b x _ hx => hx) (fun v zs hh => hh.mono fun x hx => List.mem_cons_of_mem _ hx) }
theorem del_held (hO : Own ⟨w0, S⟩ w (rowI sv zs :: (R ++ L))) (h : VolIn w0 S R L v X T w) (hn : zs.length ≤ 1000000) (bx : Nat) {bt : TypeId} (hbx : (bx, .cells #[.pointer (some ⟨v, 0, none⟩)] bt) ∈ S) :
    Calls Tryz.prog 32 #[sv, .func (.func 34) #[] #[.pointer (some ⟨bx, 0, none⟩)]] w fun e w' => ∃ a c, e = .returned (.slice a (zs.filter fun i => !decide (0 < heldN X.held i)).length c) ∧ VolIn w0 S R (rowI (.slice a (zs.filter fun i => !decide (0 < heldN X.held i)).length c) (zs.filter fun i => !decide (0 < heldN X.held i)) :: L) v X T w' := by
  refine (delI_row hO hn 34 #[.pointer (some ⟨bx, 0, none⟩)] (fun i => decide (0 < heldN X.held i)) (fun args w => by rfl) fun W v' l' hO' x => ?_).mono fun e w' hd => ?_
  · have h2 : VolIn w0 S R L v X T W := { h with own := hO'.tail }
    have hb : W.cell? ⟨bx, 0, none⟩ = some (.pointer (some ⟨v, 0, none⟩)) := by rw [h2.own.cellB hbx]; rfl
    exact (ask_any h2 bx hb x).mono fun e w' hh => ⟨hh.1, hh.2 ▸ Below.refl _ _⟩
  · obtain ⟨v', e1, e2⟩ := hd
    obtain ⟨a, c, ev, _, _⟩ := Own.sized (h := (show Own ⟨w0, S⟩ w' (⟨3, 1, v', (zs.filter fun i => !decide (0 < heldN X.held i)).length, ints (zs.filter fun i => !decide (0 < heldN X.held i))⟩ :: (R ++ L)) from e2))
    subst ev
    exact ⟨a, c, e1, h.push e2⟩
theorem VolIn.reapSome (h : VolIn w0 S R L v X T w) {a : Option Addr} {ids : List Int} {cp : Nat} (hr : rowI (.slice a ids.length cp) ids ∈ L) (hn : ids.length ≤ 1000000) : Calls Tryz.prog 31 #[.pointer (some ⟨X.t, 0, none⟩), .slice a ids.length cp] w fun e w' => e = .returned (.tuple #[]) ∧ VolTo w0 S L v X T w.heap.size { X with E := reapE X.E ids } w' := by
  have := h.turn (f := 31) (args := #[.pointer (some ⟨X.t, 0, none⟩), .slice a ids.length cp]) (r := .tuple #[]) (E' := reapE X.E ids) (B' := X.B) (reapE_inv ids h.inv) fun S1 _ k1 k2 => reap_any k1 k2 h.rep h.inv a ids cp hn (fun w' S' hO' _ i hi => by
    obtain ⟨a', c', e, _, _, h4⟩ := (hO'.only hr).stI
    injection e with e1 _ _
    subst e1
    obtain ⟨b, o, rfl, _, hc⟩ := h4 (by omega)
    exact ⟨b, o, rfl, hc i hi⟩)
  exact this
theorem to_cells9 {b m : Nat} {bt : TypeId} {bv : Value} (k : VolTo w0 S L v X T m X' w') (hb : (b, .cells #[bv] bt) ∈ S) (hn : b ∉ v :: X.hm :: X.t :: T.foot) : w'.cell? ⟨b, 0, none⟩ = some bv ∧ w'.cell? ⟨v, 0, none⟩ = some (.pointer (some ⟨X.t, 0, none⟩)) := by
  obtain ⟨S', R', L', T', h1, _, h3, _, h5, _⟩ := k
  exact ⟨by rw [h1.own.cellB (h3 _ _ hb hn)]; rfl, h5 ▸ h1.atV.1.1⟩
set_option maxHeartbeats 16000000 in
theorem vdo_all (h : VolIn w0 S R L v X T w) (hm : Mx w0) {a : Option Addr} {ops : List OpD} {xs : List OpE} (ho : Ops w0 S L a ops xs) (cap : Nat) (hk : ∀ o ∈ ops, 0 ≤ o.kind ∧ o.kind < 4294967296) (hs : ∀ o ∈ ops, o.p.size ≤ 100000 ∧ o.q.size ≤ 100000) (hz : ∀ x ∈ xs, x.zs.length ≤ 100000) (hq : ∀ o ∈ ops, o.kind = 4 ∨ o.kind = 5 ∨ o.q = ⟨#[]⟩)
    (hn0 : 0 < ops.length) (hB : X.B + ops.length ≤ 100000) (hE : (DoE X.E xs).1 = 0) (hl : (recO (pks ops xs)).length ≤ 4096) (hf : X.used + roomM (recO (pks ops xs)).length ≤ X.h) (hst : X.st ≤ 1000000000) :
    Calls Tryz.prog 11 #[.pointer (some ⟨v, 0, none⟩), .slice a ops.length cap] w fun e w' => e = .returned (.int .i64 0) ∧ ∃ D', VolTo w0 S L v X T w.heap.size (doneS X ops xs D') w' := by
  have hxl := ho.len
  have hlt : ∀ b x, (b, x) ∈ S → b < w.heap.size := fun b x hb => (h.own.atLt hb).2
  have hvlt : ∀ b ∈ v :: X.hm :: X.t :: T.foot, b < w.heap.size := fun b hb => (h.lt hb).2
  have hI1 : Inv (DoE X.E xs).2 (X.B + xs.length) := DoE_inv h.inv xs
  obtain ⟨w1, hw1⟩ : ∃ w1, w1 = w.alloc (.cells #[.pointer (some ⟨v, 0, none⟩)] 24) := ⟨_, rfl⟩
  have h1 : VolIn w0 ((w.heap.size, .cells #[.pointer (some ⟨v, 0, none⟩)] 24) :: S) R L v X T w1 := by
    rw [hw1]; exact h.base (h.own.newB _) (fun b x hx _ => List.mem_cons_of_mem _ hx)
  obtain ⟨bx, hbx⟩ : ∃ bx, w.heap.size = bx := ⟨_, rfl⟩
  rw [hbx] at h1 hlt hvlt ⊢
  have hsz1 : w1.heap.size = bx + 1 := by rw [hw1, ← hbx]; simp
  have hb1 : w1.cell? ⟨bx, 0, none⟩ = some (.pointer (some ⟨v, 0, none⟩)) := by rw [h1.own.cellB (List.mem_cons_self ..)]; rfl
  have hdead := dead_any h1
  rw [hw1] at hdead hb1
  have Hsz1 := Lib.hid hsz1
  have Hlt := Lib.hid hlt
  have Hvlt := Lib.hid hvlt
  have Ho := Lib.hid ho
  have HI := Lib.hid hI1
  have Hl := Lib.hid hl
  have Hf := Lib.hid hf
  have Hk := Lib.hid hk
  have Hs := Lib.hid hs
  have Hz := Lib.hid hz
  have Hq := Lib.hid hq
  have Hx := Lib.hid hxl
  have HE := Lib.hid hE
  have Hw1 := Lib.hid hw1
  clear h h1 hlt hvlt ho hI1 hl hf hk hs hz hq hxl hE hsz1 hw1
  subst hbx
  go_enter Tryz.func11, Tryz.ntmps11
  go_wp2_with fail
  refine hdead.mono ?_
  rintro e w2 ⟨rfl, h2, hsz2⟩
  rw [← Hw1.out, Hsz1.out] at hsz2
  have hb2 : w2.cell? ⟨w.heap.size, 0, none⟩ = some (.pointer (some ⟨v, 0, none⟩)) := by rw [h2.own.cellB (List.mem_cons_self ..)]; rfl
  obtain ⟨⟨c0, _, _, _, _⟩, _⟩ := h2.atV
  have hwk := work_any h2
  have H2 := Lib.hid h2
  clear hdead hb1 h2
  go_wp2_with fail
  refine hwk.mono ?_
  rintro e w3 ⟨c, S3, Tc, rfl, h3, hc3, hr3, hs3, hf3⟩
  have hcw : c < w3.heap.size := (h3.own.atLt hc3.at_.cells).2
  have hcl := hf3 c (List.mem_cons_self ..)
  have hS3 : ∀ b x, (b, x) ∈ S → (b, x) ∈ S3 := fun b x hx => hs3 b x (List.mem_cons_of_mem _ hx)
  have hbS3 := hs3 _ _ (List.mem_cons_self ..)
  have hdo := work_do (n := w2.heap.size) h3 hm hc3 hr3 hf3 (fun b hb => by have := Hvlt.out b hb; omega) (by omega) (Ho.out.mono hS3 (fun x hx => hx)) cap (by omega)
  rw [HE.out] at hdo
  have HS3 := Lib.hid hS3
  have HbS3 := Lib.hid hbS3
  have Hf3 := Lib.hid hf3
  clear hwk c0 hb2 h3 hc3 hr3 hs3 hf3 hS3 hbS3 H2
  go_wp2_with fail
  refine hdo.mono ?_
  rintro e w4 ⟨rfl, S4, L4, Tc4, h4, hL4, hc4, hr4, hs4, hf4⟩
  have hbS4 := hs4 _ _ HbS3.out (fun hm => by have := Hf3.out _ hm; omega)
  have hS4 : ∀ b x, (b, x) ∈ S → (b, x) ∈ S4 := fun b x hx => hs4 b x (HS3.out b x hx) (fun hm => by have := Hf3.out _ hm; have := Hlt.out b x hx; omega)
  have hb4 : w4.cell? ⟨w.heap.size, 0, none⟩ = some (.pointer (some ⟨v, 0, none⟩)) := by rw [h4.own.cellB hbS4]; rfl
  have hkp := keep_yes h4 (Ops.pack (Ho.out.mono hS4 hL4) Hk.out Hs.out Hz.out) (.pointer (some ⟨c, 0, none⟩)) cap (by rw [pks_len Hx.out]; exact hn0) (by rw [pks_len Hx.out]; omega) (fun o ho => by
    obtain ⟨i, hi, rfl⟩ := List.getElem_of_mem ho
    rw [pks_len Hx.out] at hi
    rw [pks_get Hx.out i hi]
    exact Hq.out _ (List.getElem_mem _)) Hl.out Hf.out hst
  rw [pks_len Hx.out] at hkp
  have HS4 := Lib.hid hS4
  have HbS4 := Lib.hid hbS4
  have Hf4 := Lib.hid hf4
  have HL4 := Lib.hid hL4
  have Hc4 := Lib.hid hc4
  have Hr4 := Lib.hid hr4
  clear hdo h4 hc4 hr4 hs4 hf4 hS4 hbS4 hL4
  go_wp2_with fail
  refine hkp.mono ?_
  rintro e w5 ⟨rfl, R5, L5, D5, h5, hL5⟩
  have hc5 : Tree S4 (Pc L5) c Tc4 := Hc4.out.mono (fun b x _ hx => hx) (fun _ _ hh => hh.mono hL5)
  have h6 := h5.drew.takes hc5 Hr4.out HI.out (fun b hb hm => by
    have := Hf4.out b hm
    have := Hvlt.out b hb
    omega)
  have hb5 : w5.drew.cell? ⟨w.heap.size, 0, none⟩ = some (.pointer (some ⟨v, 0, none⟩)) := by rw [h5.drew.own.cellB HbS4.out]; rfl
  obtain ⟨⟨c0, _, _, _, _⟩, _⟩ := h5.drew.atV
  obtain ⟨a0, a1, a2⟩ := (hc5.at_.inWorld h5.drew.ownL).at0
  have ht5 := h5.drew.own.at h5.tree.at_.cells
  have f0 := free_at ht5 0
  have f1 := free_at ht5 1
  have f2 := free_at ht5 2
  have b0 : w5.drew.cell? ⟨X.t, 0, none⟩ = some (.int .i64 T.quota) := cell_at ht5 0
  have b1 : w5.drew.cell? ⟨X.t, 1, none⟩ = some (.int .i64 T.next) := cell_at ht5 1
  have b2 : w5.drew.cell? ⟨X.t, 2, none⟩ = some (.map (some T.bm)) := cell_at ht5 2
  have H6 := Lib.hid h6
  have HL5 := Lib.hid (fun x (hx : x ∈ L) => hL5 x (HL4.out x hx))
  clear hkp h5 hc5 h6 hL5 ht5 hb4
  have hbu : (w.heap.size, Obj.cells #[.pointer (some ⟨v, 0, none⟩)] 24) ∈ upd S4 X.t (.cells (treeCells Tc4) 82) := upd_other HbS4.out (fun e => by
    have := Hvlt.out X.t (List.mem_cons_of_mem _ (List.mem_cons_of_mem _ (List.mem_cons_self ..)))
    omega) _
  have HbS6 := Lib.hid hbu
  have HS6 := Lib.hid (fun b x (hx : (b, x) ∈ S) (hb : b ∉ v :: X.hm :: X.t :: T.foot) => upd_other (HS4.out b x hx) (fun e => hb (e ▸ List.mem_cons_of_mem _ (List.mem_cons_of_mem _ (List.mem_cons_self ..)))) (.cells (treeCells Tc4) 82))
  have HF6 := Lib.hid (fun b (hb : b ∈ X.t :: Tc4.foot) => (show b ∈ X.t :: T.foot ∨ w.heap.size ≤ b from by
    rcases List.mem_cons.1 hb with rfl | hb
    · exact .inl (List.mem_cons_self ..)
    · have := Hf4.out b (List.mem_cons_of_mem _ hb)
      exact .inr (by omega)))
  have HbF0 : w.heap.size ∉ v :: X.hm :: X.t :: Tc4.foot := fun hm => by
    rcases List.mem_cons.1 hm with e | hm
    · have := Hvlt.out v (List.mem_cons_self ..); omega
    · rcases List.mem_cons.1 hm with e | hm
      · have := Hvlt.out X.hm (List.mem_cons_of_mem _ (List.mem_cons_self ..)); omega
      · rcases List.mem_cons.1 hm with e | hm
        · have := Hvlt.out X.t (List.mem_cons_of_mem _ (List.mem_cons_of_mem _ (List.mem_cons_self ..))); omega
        · have := Hf4.out _ (List.mem_cons_of_mem _ hm); omega
  obtain ⟨w6, hw6⟩ : ∃ w6, w6 = (((w5.drew.setCell ⟨X.t, 0, none⟩ (.int .i64 Tc4.quota)).setCell ⟨X.t, 1, none⟩ (.int .i64 Tc4.next)).setCell ⟨X.t, 2, none⟩ (.map (some Tc4.bm))) := ⟨_, rfl⟩
  rw [← hw6] at H6
  clear hbu HbS4 HS4 Hf4 Hr4 Hc4 HL4 HS3 HbS3 Hf3 Ho Hl Hf Hk Hs Hz Hq HE
  go_wp2_with fail
  go_still_tail 8, (by kernel_rfl)
  repeat still_step
  change wpList _ _ _ _ _ w5.drew
  generalize w5.drew = wd at *
  go_wp2_with fail
  rw [← hw6]
  have hb6 : w6.cell? ⟨w.heap.size, 0, none⟩ = some (.pointer (some ⟨v, 0, none⟩)) := by rw [H6.out.own.cellB HbS6.out]; rfl
  obtain ⟨⟨d0, _, _, _, _⟩, _⟩ := H6.out.atV
  have HbF := Lib.hid HbF0
  have HLo := Lib.hid (fun W (hb : Below w6.heap.size w6 W) => (H6.out.later hb).loose (by show X.B + xs.length ≤ 1000000; rw [Hx.out]; omega))
  clear hw6 a0 a1 a2 b0 b1 b2 f0 f1 f2 hb5 c0
  go_region_held3 (fun w' : World => w'.cell? ⟨w.heap.size, 0, none⟩ = some (.pointer (some ⟨v, 0, none⟩)) ∧ w'.cell? ⟨v, 0, none⟩ = some (.pointer (some ⟨X.t, 0, none⟩))) (first | exact ⟨hb6, d0⟩ | exact s7 | exact s8 | exact s9) (first
    | (go_at_call 33; refine (HLo.out _ (by first | exact Below.refl _ _ | exact (Below.refl _ _).drew)).mono ?_; rintro e w7 ⟨sv, zs, rfl, hp7, hO7, h7⟩; have s7 : w7.cell? ⟨w.heap.size, 0, none⟩ = some (.pointer (some ⟨v, 0, none⟩)) ∧ w7.cell? ⟨v, 0, none⟩ = some (.pointer (some ⟨X.t, 0, none⟩)) := ⟨by rw [h7.own.cellB HbS6.out]; rfl, h7.atV.1.1⟩; obtain ⟨q1, q2⟩ := id s7; have H7 := Lib.hid (And.intro hp7 (And.intro hO7 h7)); clear hp7 hO7 h7)
    | (go_at_call 32; refine (del_held H7.out.2.1 H7.out.2.2 (by have h1 := H7.out.1.length_eq; have h2 := H7.out.2.2.inv.len; have h3 := looseE_len (DoE X.E xs).2.nodes; have h4 := Hx.out; change (DoE X.E xs).2.nodes.length ≤ (X.B + xs.length) + 1 at h2; omega) w.heap.size HbS6.out).mono ?_; rintro e w8 ⟨a8, c8, rfl, h8⟩; have s8 : w8.cell? ⟨w.heap.size, 0, none⟩ = some (.pointer (some ⟨v, 0, none⟩)) ∧ w8.cell? ⟨v, 0, none⟩ = some (.pointer (some ⟨X.t, 0, none⟩)) := ⟨by rw [h8.own.cellB HbS6.out]; rfl, h8.atV.1.1⟩; obtain ⟨r1, r2⟩ := id s8; have H8 := Lib.hid h8; clear h8)
    | (go_at_call 31; refine (H8.out.reapSome (List.mem_cons_self ..) (by have h1 := H7.out.1.length_eq; have h2 := H7.out.2.2.inv.len; have h3 := looseE_len (DoE X.E xs).2.nodes; have h4 := Hx.out; have h5 := List.length_filter_le (fun i => !decide (0 < heldN X.held i)) zs; change (DoE X.E xs).2.nodes.length ≤ (X.B + xs.length) + 1 at h2; omega)).mono ?_; rintro e w9 ⟨rfl, h9⟩; have H9 := Lib.hid h9; have s9 := to_cells9 h9 HbS6.out HbF.out; clear h9))
  all_goals
    have HP := Lib.hid (show VolTo w0 S L v X T w.heap.size (doneS X ops xs D5) w9 from by
      have k := H9.out
      rw [sweep_eq HI.out.keys H7.out.1 X.held] at k
      exact VolTo.comp (fun x hx => List.mem_cons_of_mem _ (HL5.out x hx)) HS6.out HF6.out rfl rfl Hlt.out (Nat.le_of_lt (H8.out.own.atLt HbS6.out).2) k)
    clear H9 H8 H7 H6 HLo HbF HL5 HbS6 HS6 HF6 HI
    go_wp2_with fail
    go_ret
    exact ⟨rfl, _, HP.out⟩
end
end Go.Proofs.YtkhnkidggcjfeaaGreatDoor
end
section
namespace Go.Proofs.YtkhnkidggcjfeaaGreatDoor
open Go.RowKit
open Go.ChangeMaps (setBlock)
abbrev opsT (ts : List (Int × Nm × Nm)) : List OpD := ts.map fun t => ⟨t.1, toB t.2.1, toB t.2.2, none, 0, 0⟩
abbrev xsT (ts : List (Int × Nm × Nm)) : List OpE := ts.map fun t => ⟨t.1, t.2.1, t.2.2, []⟩
def lenT (ts : List (Int × Nm × Nm)) : Nat := 1 + (ts.map fun t => 16 + t.2.1.length + t.2.2.length).sum
theorem recO_len (ts : List (Int × Nm × Nm)) : (recO (pks (opsT ts) (xsT ts))).length = lenT ts := by
  unfold recO lenT
  rw [List.length_cons]
  have h : (packsD (pks (opsT ts) (xsT ts))).length = (ts.map fun t => 16 + t.2.1.length + t.2.2.length).sum := by
    induction ts with
    | nil => rfl
    | cons t r ih =>
      have e : pks (opsT (t :: r)) (xsT (t :: r)) = ((⟨t.1, toB t.2.1, toB t.2.2, none, 0, 0⟩ : OpD), ([] : List Int)) :: pks (opsT r) (xsT r) := rfl
      have e2 : ∀ (o : OpD) (d : List Int) (l : List (OpD × List Int)), packsD ((o, d) :: l) = packD o d ++ packsD l := fun o d l => rfl
      rw [e, e2, List.length_append, ih, List.map_cons, List.sum_cons]
      unfold packD
      simp only [List.length_append, sizedL_length, sb_length, toB_size, List.length_nil]
      have : (le4 t.1).length = 4 := rfl
      omega
  rw [h]; omega
def doV (V : MV) (ts : List (Int × Nm × Nm)) : MV := { V with E := sweepE (DoE V.E (xsT ts)).2 V.held, bud := (V.bud.1 + ts.length, V.bud.2.1 + roomM (lenT ts), V.bud.2.2.1, V.bud.2.2.2 + 100) }
theorem Gd.do_ {N : Nat} {V : MV} (h : Gd N V) (ts : List (Int × Nm × Nm)) : Gd N (doV V ts) := ⟨⟨h.held.1, h.held.2⟩, h.keys, h.last, h.each, h.evs, h.few, h.lens, h.nodup, h.some_, h.tri⟩
structure TsOk (ts : List (Int × Nm × Nm)) : Prop where
  pos : 0 < ts.length
  kind : ∀ t ∈ ts, 0 ≤ t.1 ∧ t.1 < 4294967296
  size : ∀ t ∈ ts, t.2.1.length ≤ 1000 ∧ t.2.2.length ≤ 1000
  two : ∀ t ∈ ts, t.1 = 4 ∨ t.1 = 5 ∨ t.2.2 = []
section
variable {w0 w w1 w' : World} {K : Blocks} {L0 : List Rw} {v mb tb gb N : Nat} {us : List GU} {ord : OrdX} {V : MV} {X : VX} {Y : Tab}
theorem VT.volE {α : Type} {X' : α → VX} (h : VT w0 K L0 v X Y w) {f : FuncId} {args : Array Value} {P : Ending → Prop} (hc : ∀ S R L T, VolIn w0 S R L v X T w → (∀ x ∈ L0, x ∈ L) → Calls Tryz.prog f args w fun e w' => P e ∧ ∃ a, VolTo w0 S L v X T w.heap.size (X' a) w') : Calls Tryz.prog f args w fun e w' => ∃ a, P e ∧ VT w0 K L0 v (X' a) Y w' := by
  obtain ⟨S, R, L, T, h1, h2, h3, h4, h5⟩ := h
  refine (hc S R L T h1 h4).mono fun e w' hd => ?_
  obtain ⟨hP, a, S', R', L', T', k1, k2, k3, k4, k5, k6⟩ := hd
  refine ⟨a, hP, S', R', L', T', k1, h2.mono (fun b x hb hx => k3 b x hx (h3 b hb)) k2, fun b hb => VolTo.off (h3 b hb) (h2.lt h1.ownL b hb) k4 k5 k6, fun x hx => k2 x (h4 x hx), fun b x hb => ?_⟩
  obtain ⟨q1, q2, q3⟩ := h5 b x hb
  exact ⟨k3 b x q1 q2, VolTo.off q2 (h1.own.atLt q1).2 k4 k5 k6, q3⟩
theorem opsT_in {S : Blocks} {L : List Rw} {ts : List (Int × Nm × Nm)} (hs : ∀ t ∈ ts, t.2.1.length ≤ 1000 ∧ t.2.2.length ≤ 1000) (i : Nat) (h : i < (opsT ts).length) : OpIn w0 S L (opsT ts)[i] ((xsT ts)[i]'(by simpa using h)) := by
  have hi : i < ts.length := by simpa using h
  have hz := hs _ (List.getElem_mem hi)
  have e1 : (opsT ts)[i] = ⟨ts[i].1, toB ts[i].2.1, toB ts[i].2.2, none, 0, 0⟩ := by simp
  have e2 : (xsT ts)[i]'(by simpa using h) = ⟨ts[i].1, (toB ts[i].2.1).data.toList, (toB ts[i].2.2).data.toList, []⟩ := by simp
  rw [e1, e2]
  exact op_noneV _ _ _ (by rw [toB_size]; exact hz.1) (by rw [toB_size]; exact hz.2)
set_option maxHeartbeats 2000000 in
theorem mdo_at (h : MgAt w0 v mb tb gb us ord N V w) (hm : Mx w0) {a : Option Addr} {cp : Nat} {ts : List (Int × Nm × Nm)} (k : Own w w1 [rowO (.slice a ts.length cp) (opsT ts)]) (ht : TsOk ts) (cap : Nat) (hE : (DoE V.E (xsT ts)).1 = 0) (hB : V.bud.1 + ts.length ≤ 100000) (hl : lenT ts ≤ 4096) (hf : V.bud.2.1 + roomM (lenT ts) ≤ V.bud.2.2.1) (hst : V.bud.2.2.2 ≤ 1000000000) :
    Calls Tryz.prog 11 #[.pointer (some ⟨v, 0, none⟩), .slice a ts.length cap] w1 fun e w' => e = .returned (.int .i64 0) ∧ MgAt w0 v mb tb gb us ord N (doV V ts) w' := by
  obtain ⟨K, L0, X, Y, M, h, rfl, rfl, rfl, rfl, hg, hG⟩ := h
  have h1 := h.join k
  have hlen : (opsT ts).length = ts.length := by simp
  refine (h1.call (α := Dk) (P := fun _ e => e = .returned (.int .i64 0)) (X' := fun D' => doneS X (opsT ts) (xsT ts) D') (Y' := fun _ => Y) (fun _ => rfl) fun K' hV => ?_).mono fun e w' hh => ?_
  · refine VT.volE (X' := fun D' => doneS X (opsT ts) (xsT ts) D') (P := fun e => e = .returned (.int .i64 0)) hV fun S R L T hI hL => ?_
    have hr : rowO (.slice a (opsT ts).length cp) (opsT ts) ∈ L := by
      rw [hlen]
      exact hL _ (List.mem_append_left _ (List.mem_cons_self ..))
    have := vdo_all hI hm (ops := opsT ts) (xs := xsT ts) (Ops.rowD hr (by simp) (opsT_in ht.size)) cap (fun o ho => by
      obtain ⟨t, h1, rfl⟩ := List.mem_map.1 ho
      exact ht.kind t h1) (fun o ho => by
      obtain ⟨t, h1, rfl⟩ := List.mem_map.1 ho
      have := ht.size t h1
      exact ⟨by show (toB t.2.1).size ≤ _; rw [toB_size]; omega, by show (toB t.2.2).size ≤ _; rw [toB_size]; omega⟩) (fun x hx => by
      obtain ⟨t, h1, rfl⟩ := List.mem_map.1 hx
      exact Nat.zero_le _) (fun o ho => by
      obtain ⟨t, h1, rfl⟩ := List.mem_map.1 ho
      rcases ht.two t h1 with h2 | h2 | h2
      · exact .inl h2
      · exact .inr (.inl h2)
      · refine .inr (.inr ?_)
        show toB t.2.2 = _
        rw [h2]) (by rw [hlen]; exact ht.pos) (by rw [hlen]; exact hB) hE (by rw [recO_len]; exact hl) (by rw [recO_len]; exact hf) hst
    rw [hlen] at this
    exact this
  · obtain ⟨D', h2, h3⟩ := hh
    refine ⟨h2, _, _, _, _, _, h3, ?_, rfl, rfl, rfl, hg.mono (fun m hm => List.mem_append_right _ hm) (fun r hr => List.mem_append_right _ hr), hG.do_ ts⟩
    show (⟨sweepE (DoE X.E (xsT ts)).2 X.held, X.held, Y.last, _, _, _, (X.B + (xsT ts).length, X.used + roomM (recO (pks (opsT ts) (xsT ts))).length, X.h, X.st + 100)⟩ : MV) = _
    rw [recO_len, List.length_map]
    rfl
end
end Go.Proofs.YtkhnkidggcjfeaaGreatDoor
end
section
namespace Go.Proofs.YtkhnkidggcjfeaaGreatDoor
open Go.RowKit
open Go.ChangeMaps (setBlock)
section
variable {w0 w w' : World} {S S' S1 : Blocks} {R L L' L1 M : List Rw} {v c n : Nat} {X X' X1 X2 : VX} {T T' Tc T1 : Tr} {K : Blocks} {sv : Value} {zs : List Int}
set_option maxHeartbeats 16000000 in
theorem vdo_bad (h : VolIn w0 S R L v X T w) (hm : Mx w0) {a : Option Addr} {ops : List OpD} {xs : List OpE} (ho : Ops w0 S L a ops xs) (cap : Nat) (hB : X.B + ops.length ≤ 100000) (hE : (DoE X.E xs).1 ≠ 0) :
    Calls Tryz.prog 11 #[.pointer (some ⟨v, 0, none⟩), .slice a ops.length cap] w fun e w' => e = .returned (.int .i64 (DoE X.E xs).1) ∧ VolTo w0 S L v X T w.heap.size X w' := by
  have hxl := ho.len
  have hlt : ∀ b x, (b, x) ∈ S → b < w.heap.size := fun b x hb => (h.own.atLt hb).2
  have hvlt : ∀ b ∈ v :: X.hm :: X.t :: T.foot, b < w.heap.size := fun b hb => (h.lt hb).2
  obtain ⟨w1, hw1⟩ : ∃ w1, w1 = w.alloc (.cells #[.pointer (some ⟨v, 0, none⟩)] 24) := ⟨_, rfl⟩
  have h1 : VolIn w0 ((w.heap.size, .cells #[.pointer (some ⟨v, 0, none⟩)] 24) :: S) R L v X T w1 := by
    rw [hw1]; exact h.base (h.own.newB _) (fun b x hx _ => List.mem_cons_of_mem _ hx)
  obtain ⟨bx, hbx⟩ : ∃ bx, w.heap.size = bx := ⟨_, rfl⟩
  rw [hbx] at h1 hlt hvlt ⊢
  have hsz1 : w1.heap.size = bx + 1 := by rw [hw1, ← hbx]; simp
  have hb1 : w1.cell? ⟨bx, 0, none⟩ = some (.pointer (some ⟨v, 0, none⟩)) := by rw [h1.own.cellB (List.mem_cons_self ..)]; rfl
  have hdead := dead_any h1
  rw [hw1] at hdead hb1
  have Hsz1 := Lib.hid hsz1
  have Hlt := Lib.hid hlt
  have Hvlt := Lib.hid hvlt
  have Ho := Lib.hid ho
  have Hx := Lib.hid hxl
  have HE := Lib.hid hE
  have Hw1 := Lib.hid hw1
  clear h h1 hlt hvlt ho hxl hE hsz1 hw1
  subst hbx
  go_enter Tryz.func11, Tryz.ntmps11
  go_wp2_with fail
  refine hdead.mono ?_
  rintro e w2 ⟨rfl, h2, hsz2⟩
  rw [← Hw1.out, Hsz1.out] at hsz2
  have hb2 : w2.cell? ⟨w.heap.size, 0, none⟩ = some (.pointer (some ⟨v, 0, none⟩)) := by rw [h2.own.cellB (List.mem_cons_self ..)]; rfl
  obtain ⟨⟨c0, _, _, _, _⟩, _⟩ := h2.atV
  have hwk := work_any h2
  have H2 := Lib.hid h2
  clear hdead hb1 h2
  go_wp2_with fail
  refine hwk.mono ?_
  rintro e w3 ⟨c, S3, Tc, rfl, h3, hc3, hr3, hs3, hf3⟩
  have hcw : c < w3.heap.size := (h3.own.atLt hc3.at_.cells).2
  have hcl := hf3 c (List.mem_cons_self ..)
  have hS3 : ∀ b x, (b, x) ∈ S → (b, x) ∈ S3 := fun b x hx => hs3 b x (List.mem_cons_of_mem _ hx)
  have hbS3 := hs3 _ _ (List.mem_cons_self ..)
  have hdo := work_do (n := w2.heap.size) h3 hm hc3 hr3 hf3 (fun b hb => by have := Hvlt.out b hb; omega) (by omega) (Ho.out.mono hS3 (fun x hx => hx)) cap (by omega)
  obtain ⟨cd, hcd⟩ : ∃ cd, (DoE X.E xs).1 = cd := ⟨_, rfl⟩
  rw [hcd] at hdo
  have HC := Lib.hid hcd
  have Hn : (cd == 0) = false := by
    have := HE.out
    rw [hcd] at this
    simpa using this
  clear hcd HE
  have HS3 := Lib.hid hS3
  have HbS3 := Lib.hid hbS3
  have Hf3 := Lib.hid hf3
  clear hwk c0 hb2 h3 hc3 hr3 hs3 hf3 hS3 hbS3 H2
  go_wp2_with fail
  refine hdo.mono ?_
  rintro e w4 ⟨rfl, S4, L4, Tc4, h4, hL4, hc4, hr4, hs4, hf4⟩
  have hbS4 := hs4 _ _ HbS3.out (fun hm => by have := Hf3.out _ hm; omega)
  have hS4 : ∀ b x, (b, x) ∈ S → (b, x) ∈ S4 := fun b x hx => hs4 b x (HS3.out b x hx) (fun hm => by have := Hf3.out _ hm; have := Hlt.out b x hx; omega)
  have HP := Lib.hid (show VolTo w0 S L v X T w.heap.size X w4 from ⟨S4, R, L4, T, h4, hL4, fun b x hb _ => hS4 b x hb, fun b hb => .inl hb, rfl, rfl⟩)
  clear hdo h4 hc4 hr4 hs4 hf4 hS4 hbS4 hL4
  go_wp2_with fail
  go_ret
  exact ⟨congrArg (fun c => Ending.returned (.int .i64 c)) HC.out.symm, HP.out⟩
end
end Go.Proofs.YtkhnkidggcjfeaaGreatDoor
end
section
namespace Go.Proofs.YtkhnkidggcjfeaaGreatDoor
open Go.RowKit
open Go.ChangeMaps (setBlock)
def doG (V : MV) (ops : List OpD) (xs : List OpE) : MV := { V with E := sweepE (DoE V.E xs).2 V.held, bud := (V.bud.1 + xs.length, V.bud.2.1 + roomM (recO (pks ops xs)).length, V.bud.2.2.1, V.bud.2.2.2 + 100) }
def goV (V : MV) (ops : List OpD) (xs : List OpE) : MV := if (DoE V.E xs).1 = 0 then doG V ops xs else V
theorem Gd.doG {N : Nat} {V : MV} (h : Gd N V) (ops : List OpD) (xs : List OpE) : Gd N (doG V ops xs) := ⟨⟨h.held.1, h.held.2⟩, h.keys, h.last, h.each, h.evs, h.few, h.lens, h.nodup, h.some_, h.tri⟩
section
variable {w0 w w1 w' : World} {K : Blocks} {L0 : List Rw} {v mb tb gb N : Nat} {us : List GU} {ord : OrdX} {V : MV} {X : VX} {Y : Tab}
set_option maxHeartbeats 2000000 in
theorem mdo_gen (h : MgAt w0 v mb tb gb us ord N V w) (hm : Mx w0) {a : Option Addr} {S1 : Blocks} {L1 : List Rw} {ops : List OpD} {xs : List OpE} (k : Own ⟨w, S1⟩ w1 L1) (ho : ∀ S L, (∀ r ∈ L1, r ∈ L) → Ops w0 S L a ops xs) (cap : Nat)
    (hk : ∀ o ∈ ops, 0 ≤ o.kind ∧ o.kind < 4294967296) (hs : ∀ o ∈ ops, o.p.size ≤ 100000 ∧ o.q.size ≤ 100000) (hz : ∀ x ∈ xs, x.zs.length ≤ 100000) (hq : ∀ o ∈ ops, o.kind = 4 ∨ o.kind = 5 ∨ o.q = ⟨#[]⟩)
    (hn0 : 0 < ops.length) (hB : V.bud.1 + ops.length ≤ 100000) (hl : (recO (pks ops xs)).length ≤ 4096) (hf : V.bud.2.1 + roomM (recO (pks ops xs)).length ≤ V.bud.2.2.1) (hst : V.bud.2.2.2 ≤ 1000000000) :
    Calls Tryz.prog 11 #[.pointer (some ⟨v, 0, none⟩), .slice a ops.length cap] w1 fun e w' => e = .returned (.int .i64 (DoE V.E xs).1) ∧ MgAt w0 v mb tb gb us ord N (goV V ops xs) w' := by
  obtain ⟨K, L0, X, Y, M, h, rfl, rfl, rfl, rfl, hg, hG⟩ := h
  have h1 := h.join k
  have hg1 := hg.mono (K' := S1 ++ K) (L1 := L1 ++ L0) (fun m hm => List.mem_append_right _ hm) (fun r hr => List.mem_append_right _ hr)
  have e0 : (vw X Y M).E = X.E := rfl
  unfold goV
  rw [e0]
  by_cases hE : (DoE X.E xs).1 = 0
  · rw [if_pos hE, hE]
    refine (h1.call (α := Dk) (P := fun _ e => e = .returned (.int .i64 0)) (X' := fun D' => doneS X ops xs D') (Y' := fun _ => Y) (fun _ => rfl) fun K' hV => ?_).mono fun e w' hh => ?_
    · refine VT.volE (X' := fun D' => doneS X ops xs D') (P := fun e => e = .returned (.int .i64 0)) hV fun S R L T hI hL => ?_
      exact vdo_all hI hm (ho S L fun r hr => hL r (List.mem_append_left _ hr)) cap hk hs hz hq hn0 hB hE hl hf hst
    · obtain ⟨D', h2, h3⟩ := hh
      exact ⟨h2, _, _, _, _, _, h3, rfl, rfl, rfl, rfl, hg1, hG.doG ops xs⟩
  · rw [if_neg hE]
    refine (h1.call (α := Unit) (P := fun _ e => e = .returned (.int .i64 (DoE X.E xs).1)) (X' := fun _ => X) (Y' := fun _ => Y) (fun _ => rfl) fun K' hV => ?_).mono fun e w' hh => ?_
    · refine VT.volE (X' := fun _ : Unit => X) (P := fun e => e = .returned (.int .i64 (DoE X.E xs).1)) hV fun S R L T hI hL => ?_
      exact (vdo_bad hI hm (ho S L fun r hr => hL r (List.mem_append_left _ hr)) cap hB hE).mono fun e w' hh => ⟨hh.1, (), hh.2⟩
    · obtain ⟨_, h2, h3⟩ := hh
      exact ⟨h2, _, _, _, _, _, h3, rfl, rfl, rfl, rfl, hg1, hG⟩
theorem mdo_ts (h : MgAt w0 v mb tb gb us ord N V w) (hm : Mx w0) {a : Option Addr} {cp : Nat} {ts : List (Int × Nm × Nm)} (k : Own w w1 [rowO (.slice a ts.length cp) (opsT ts)]) (ht : TsOk ts) (cap : Nat) (hB : V.bud.1 + ts.length ≤ 100000) (hl : lenT ts ≤ 4096) (hf : V.bud.2.1 + roomM (lenT ts) ≤ V.bud.2.2.1) (hst : V.bud.2.2.2 ≤ 1000000000) :
    Calls Tryz.prog 11 #[.pointer (some ⟨v, 0, none⟩), .slice a ts.length cap] w1 fun e w' => e = .returned (.int .i64 (DoE V.E (xsT ts)).1) ∧ MgAt w0 v mb tb gb us ord N (goV V (opsT ts) (xsT ts)) w' := by
  have hlen : (opsT ts).length = ts.length := by simp
  have := mdo_gen h hm (a := a) (ops := opsT ts) (xs := xsT ts) k (fun S L hL => Ops.rowD (cp := cp) (by rw [hlen]; exact hL _ (List.mem_cons_self ..)) (by simp) (opsT_in ht.size)) cap (fun o ho => by
      obtain ⟨t, h1, rfl⟩ := List.mem_map.1 ho
      exact ht.kind t h1) (fun o ho => by
      obtain ⟨t, h1, rfl⟩ := List.mem_map.1 ho
      have := ht.size t h1
      exact ⟨by show (toB t.2.1).size ≤ _; rw [toB_size]; omega, by show (toB t.2.2).size ≤ _; rw [toB_size]; omega⟩) (fun x hx => by
      obtain ⟨t, h1, rfl⟩ := List.mem_map.1 hx
      exact Nat.zero_le _) (fun o ho => by
      obtain ⟨t, h1, rfl⟩ := List.mem_map.1 ho
      rcases ht.two t h1 with h2 | h2 | h2
      · exact .inl h2
      · exact .inr (.inl h2)
      · refine .inr (.inr ?_)
        show toB t.2.2 = _
        rw [h2]) (by rw [hlen]; exact ht.pos) (by rw [hlen]; exact hB) (by rw [recO_len]; exact hl) (by rw [recO_len]; exact hf) hst
  rw [hlen] at this
  exact this
end
end Go.Proofs.YtkhnkidggcjfeaaGreatDoor
end
section
namespace Go.Proofs.YtkhnkidggcjfeaaGreatDoor
open Go.RowKit
open Go.ChangeMaps (setBlock)
def kidsE (E : Et) : List (ByteArray × Int) := match look E.nodes 1 with
  | some n => n.kids
  | none => []
def FlE (E : Et) : Prop := ∀ x i, look (kidsE E) x = some i → ∃ f, look E.nodes i = some f ∧ f.dir = false
structure One (l : List UInt8) (z : List UInt8) : Prop where
  last : (namesL l).getLast? = some z
  ahead : (namesL l).dropLast = []
theorem place_one {E : Et} {B : Nat} (h : Inv E B) {l z : List UInt8} (hl : One l z) : ∃ nd, look E.nodes 1 = some nd ∧ nd.dir = true ∧ kidsE E = nd.kids ∧ placeE E l = (0, some (1, nd, z)) := by
  obtain ⟨nd, h1, h2⟩ := h.root
  refine ⟨nd, h1, h2, by unfold kidsE; rw [h1], ?_⟩
  unfold placeE
  rw [hl.last, hl.ahead]
  show (match look E.nodes 1 with | none => _ | some nd => _) = _
  rw [h1]
  simp only [h2, if_true]
theorem kids_of {E : Et} {nd : ENd} (h : look E.nodes 1 = some nd) : kidsE E = nd.kids := by unfold kidsE; rw [h]
theorem kids_of2 {E : Et} {ns : List (Int × ENd)} {nd : ENd} (h : look ns 1 = some nd) : kidsE { E with nodes := ns } = nd.kids := kids_of (E := { E with nodes := ns }) h
theorem names_one {E : Et} {B : Nat} (h : Inv E B) : ((kidsE E).map (·.1)).Nodup := by
  obtain ⟨nd, h1, h2⟩ := h.root
  rw [kids_of h1]
  exact h.names 1 nd h1
theorem look_del2 {m : List (ByteArray × Int)} (hd : (m.map (·.1)).Nodup) (a x : ByteArray) : look (del m a) x = if x = a then none else look m x := by
  by_cases hx : x = a
  · rw [if_pos hx, hx]
    exact look_del_same hd a
  · rw [if_neg hx]
    exact look_del_ne hx
theorem kid_ne {E : Et} {B : Nat} (h : Inv E B) {x : ByteArray} {i : Int} (hx : look (kidsE E) x = some i) (hf : FlE E) : i ≠ 1 ∧ i < E.next ∧ 1 ≤ i := by
  obtain ⟨f, h1, h2⟩ := hf x i hx
  obtain ⟨nd, h3, h4⟩ := h.root
  obtain ⟨h5, h6⟩ := h.low i f h1
  refine ⟨fun e => ?_, h6, h5⟩
  rw [e, h3] at h1
  injection h1 with h1
  rw [h1, h2] at h4
  cases h4
theorem step_create {E : Et} {B : Nat} (h : Inv E B) (hf : FlE E) {l z : List UInt8} (hl : One l z) (l2 : List UInt8) :
    (look (kidsE E) (toB z) ≠ none → (stepE E ⟨2, l, l2, []⟩).1 ≠ 0) ∧ (look (kidsE E) (toB z) = none → (stepE E ⟨2, l, l2, []⟩).1 = 0 ∧ FlE (stepE E ⟨2, l, l2, []⟩).2 ∧ (stepE E ⟨2, l, l2, []⟩).2.next = E.next + 1 ∧ ∀ x, look (kidsE (stepE E ⟨2, l, l2, []⟩).2) x = if x = toB z then some E.next else look (kidsE E) x) := by
  obtain ⟨nd, h1, h2, hk, h3⟩ := place_one h hl
  have hn1 : (1 : Int) ≠ E.next := by
    have := (h.low 1 nd h1).2; omega
  unfold stepE
  rw [if_neg (by simp), h3]
  simp only
  rw [if_neg (by simp), hk]
  refine ⟨fun hx => ?_, fun hx => ?_⟩
  · cases hl2 : look nd.kids (toB z) with
    | none => exact absurd hl2 hx
    | some i => simp
  · rw [hx]
    simp only
    rw [if_neg (by decide), if_pos trivial]
    have hroot : look (createE E 1 nd (toB z) []).nodes 1 = some { nd with kids := put nd.kids (toB z) E.next } := by
      unfold createE
      rw [look_put, if_neg hn1, look_put, if_pos rfl]
    have hkk := kids_of hroot
    have hlk : ∀ x, look (kidsE (createE E 1 nd (toB z) [])) x = if x = toB z then some E.next else look nd.kids x := fun x => by
      rw [hkk]; exact look_put _ _ _ _
    refine ⟨rfl, fun x i hx2 => ?_, rfl, hlk⟩
    rw [hlk] at hx2
    by_cases hxz : x = toB z
    · rw [if_pos hxz] at hx2
      injection hx2 with hx2
      subst hx2
      exact ⟨⟨false, [], [], 1⟩, by unfold createE; rw [look_put, if_pos rfl], rfl⟩
    · rw [if_neg hxz, ← hk] at hx2
      obtain ⟨f, g1, g2⟩ := hf x i hx2
      obtain ⟨n1, n2, _⟩ := kid_ne h hx2 hf
      exact ⟨f, by unfold createE; rw [look_put, if_neg (by omega), look_put, if_neg n1, look_put, if_neg (by omega)]; exact g1, g2⟩
theorem take_one {E : Et} {B : Nat} (h : Inv E B) (hf : FlE E) {z : ByteArray} {i : Int} (hz : look (kidsE E) z = some i) :
    FlE (takeEx E 1 z) ∧ (takeEx E 1 z).next = E.next ∧ (∃ nd, look (takeEx E 1 z).nodes 1 = some nd ∧ nd.dir = true) ∧ (∃ f, look (takeEx E 1 z).nodes i = some f ∧ f.dir = false) ∧ ((kidsE (takeEx E 1 z)).map (·.1)).Nodup ∧ ∀ x, look (kidsE (takeEx E 1 z)) x = if x = z then none else look (kidsE E) x := by
  obtain ⟨nd, h1, h2⟩ := h.root
  have hk := kids_of h1
  obtain ⟨f, f1, f2⟩ := hf z i hz
  obtain ⟨n1, n2, n3⟩ := kid_ne h hz hf
  have hnd := names_one h
  have e : takeEx E 1 z = { E with nodes := put (put E.nodes i { f with places := f.places - 1 }) 1 { nd with kids := del nd.kids z } } := by
    unfold takeEx
    rw [h1]
    simp only
    rw [← hk, hz]
    simp only
    rw [f1]
  rw [e]
  have hroot : look (put (put E.nodes i { f with places := f.places - 1 }) 1 { nd with kids := del nd.kids z }) 1 = some { nd with kids := del nd.kids z } := by rw [look_put, if_pos rfl]
  have hkk : kidsE { E with nodes := put (put E.nodes i { f with places := f.places - 1 }) 1 { nd with kids := del nd.kids z } } = del nd.kids z := kids_of2 hroot
  have hlk : ∀ x, look (del nd.kids z) x = if x = z then none else look (kidsE E) x := fun x => by
    rw [hk]; exact look_del2 (hk ▸ hnd) z x
  have hfile : look (put (put E.nodes i { f with places := f.places - 1 }) 1 { nd with kids := del nd.kids z }) i = some { f with places := f.places - 1 } := by
    rw [look_put, if_neg n1, look_put, if_pos rfl]
  refine ⟨fun x j hx => ?_, rfl, ⟨_, hroot, h2⟩, ⟨_, hfile, f2⟩, ?_, fun x => by rw [hkk]; exact hlk x⟩
  · rw [hkk, hlk] at hx
    by_cases hxz : x = z
    · rw [if_pos hxz] at hx; cases hx
    · rw [if_neg hxz] at hx
      obtain ⟨g, g1, g2⟩ := hf x j hx
      obtain ⟨m1, m2, _⟩ := kid_ne h hx hf
      by_cases hji : j = i
      · exact ⟨{ f with places := f.places - 1 }, by rw [hji]; exact hfile, f2⟩
      · exact ⟨g, by show look (put _ _ _) j = _; rw [look_put, if_neg m1, look_put, if_neg hji]; exact g1, g2⟩
  · rw [hkk]
    exact (hk ▸ hnd).sublist ((del_sub nd.kids z).map _)
theorem put_one {E : Et} {nd f : ENd} (h1 : look E.nodes 1 = some nd) (h2 : nd.dir = true) (hf : FlE E) {i : Int} (hi : i ≠ 1) (h3 : look E.nodes i = some f) (h4 : f.dir = false) (z : ByteArray) (hn : ∀ x j, look (kidsE E) x = some j → j ≠ 1) :
    FlE (putEx E 1 z i) ∧ (putEx E 1 z i).next = E.next ∧ ∀ x, look (kidsE (putEx E 1 z i)) x = if x = z then some i else look (kidsE E) x := by
  have hk := kids_of h1
  have e : putEx E 1 z i = { E with nodes := put (put E.nodes 1 { nd with kids := put nd.kids z i }) i { f with places := f.places + 1 } } := by
    unfold putEx
    rw [h1, h3]
  rw [e]
  have hroot : look (put (put E.nodes 1 { nd with kids := put nd.kids z i }) i { f with places := f.places + 1 }) 1 = some { nd with kids := put nd.kids z i } := by rw [look_put, if_neg (Ne.symm hi), look_put, if_pos rfl]
  have hkk : kidsE { E with nodes := put (put E.nodes 1 { nd with kids := put nd.kids z i }) i { f with places := f.places + 1 } } = put nd.kids z i := kids_of2 hroot
  have hlk : ∀ x, look (put nd.kids z i) x = if x = z then some i else look (kidsE E) x := fun x => by rw [hk]; exact look_put _ _ _ _
  refine ⟨fun x j hx => ?_, rfl, fun x => by rw [hkk]; exact hlk x⟩
  rw [hkk, hlk] at hx
  by_cases hxz : x = z
  · rw [if_pos hxz] at hx
    injection hx with hx
    subst hx
    exact ⟨{ f with places := f.places + 1 }, by show look (put _ _ _) i = _; rw [look_put, if_pos rfl], h4⟩
  · rw [if_neg hxz] at hx
    obtain ⟨g, g1, g2⟩ := hf x j hx
    by_cases hji : j = i
    · exact ⟨{ f with places := f.places + 1 }, by show look (put _ _ _) j = _; rw [look_put, if_pos hji], h4⟩
    · exact ⟨g, by show look (put _ _ _) j = _; rw [look_put, if_neg hji, look_put, if_neg (hn x j hx)]; exact g1, g2⟩
end Go.Proofs.YtkhnkidggcjfeaaGreatDoor
end
section
namespace Go.Proofs.YtkhnkidggcjfeaaGreatDoor
open Go.RowKit
open Go.ChangeMaps (setBlock)
def InjE (E : Et) : Prop := ∀ x y i, look (kidsE E) x = some i → look (kidsE E) y = some i → x = y
theorem step_unlink {E : Et} {B : Nat} (h : Inv E B) (hf : FlE E) {l z : List UInt8} (hl : One l z) (l2 : List UInt8) :
    (look (kidsE E) (toB z) = none → (stepE E ⟨6, l, l2, []⟩).1 ≠ 0) ∧ (∀ i, look (kidsE E) (toB z) = some i → (stepE E ⟨6, l, l2, []⟩).1 = 0 ∧ FlE (stepE E ⟨6, l, l2, []⟩).2 ∧ (stepE E ⟨6, l, l2, []⟩).2.next = E.next ∧ ∀ x, look (kidsE (stepE E ⟨6, l, l2, []⟩).2) x = if x = toB z then none else look (kidsE E) x) := by
  obtain ⟨nd, h1, h2, hk, h3⟩ := place_one h hl
  refine ⟨fun hx => ?_, fun i hx => ?_⟩
  · unfold stepE
    rw [hk] at hx
    rw [if_neg (by simp), h3]
    simp only
    rw [if_neg (by simp), hx]
    simp
  · obtain ⟨f, f1, f2⟩ := hf _ i hx
    obtain ⟨t1, t2, _, _, _, t6⟩ := take_one h hf hx
    have e : stepE E ⟨6, l, l2, []⟩ = (0, takeEx E 1 (toB z)) := by
      unfold stepE
      rw [hk] at hx
      rw [if_neg (by simp), h3]
      simp only
      rw [if_neg (by simp), hx]
      simp only
      rw [if_neg (by decide), f1]
      simp only
      rw [if_neg (by decide), f2]
      simp
    rw [e]
    exact ⟨rfl, t1, t2, t6⟩
theorem step_write {E : Et} {B : Nat} (h : Inv E B) (hf : FlE E) {l z : List UInt8} (hl : One l z) (l2 : List UInt8) (zs : List Int) (hz : zs.length ≤ 3500) :
    (look (kidsE E) (toB z) = none → (stepE E ⟨3, l, l2, zs⟩).1 ≠ 0) ∧ (∀ i, look (kidsE E) (toB z) = some i → (stepE E ⟨3, l, l2, zs⟩).1 = 0 ∧ FlE (stepE E ⟨3, l, l2, zs⟩).2 ∧ (stepE E ⟨3, l, l2, zs⟩).2.next = E.next ∧ ∀ x, look (kidsE (stepE E ⟨3, l, l2, zs⟩).2) x = look (kidsE E) x) := by
  obtain ⟨nd, h1, h2, hk, h3⟩ := place_one h hl
  refine ⟨fun hx => ?_, fun i hx => ?_⟩
  · unfold stepE
    rw [hk] at hx
    rw [if_neg (by simp), h3]
    simp only
    rw [if_neg (by omega), hx]
    simp
  · obtain ⟨f, f1, f2⟩ := hf _ i hx
    obtain ⟨n1, n2, n3⟩ := kid_ne h hx hf
    have e : stepE E ⟨3, l, l2, zs⟩ = (0, { E with nodes := put E.nodes i { f with data := zs } }) := by
      unfold stepE
      rw [hk] at hx
      rw [if_neg (by simp), h3]
      simp only
      rw [if_neg (by omega), hx]
      simp only
      rw [if_neg (by decide), f1]
      simp only
      rw [if_neg (by decide), f2]
      simp
    rw [e]
    have hroot : look (put E.nodes i { f with data := zs }) 1 = some nd := by rw [look_put, if_neg (Ne.symm n1)]; exact h1
    have hkk : kidsE { E with nodes := put E.nodes i { f with data := zs } } = nd.kids := kids_of2 hroot
    refine ⟨rfl, fun x j hx2 => ?_, rfl, fun x => by rw [hkk, hk]⟩
    rw [hkk, ← hk] at hx2
    obtain ⟨g, g1, g2⟩ := hf x j hx2
    by_cases hji : j = i
    · exact ⟨{ f with data := zs }, by show look (put _ _ _) j = _; rw [look_put, if_pos hji], f2⟩
    · exact ⟨g, by show look (put _ _ _) j = _; rw [look_put, if_neg hji]; exact g1, g2⟩
theorem step_rename {E : Et} {B : Nat} (h : Inv E B) (hf : FlE E) (hi : InjE E) {l z l2 z2 : List UInt8} (hl : One l z) (hl2 : One l2 z2) :
    (look (kidsE E) (toB z) = none → (stepE E ⟨5, l, l2, []⟩).1 ≠ 0) ∧ (∀ i, look (kidsE E) (toB z) = some i → (stepE E ⟨5, l, l2, []⟩).1 = 0 ∧ FlE (stepE E ⟨5, l, l2, []⟩).2 ∧ (stepE E ⟨5, l, l2, []⟩).2.next = E.next ∧ ∀ x, look (kidsE (stepE E ⟨5, l, l2, []⟩).2) x = if x = toB z2 then some i else if x = toB z then none else look (kidsE E) x) := by
  obtain ⟨nd, h1, h2, hk, h3⟩ := place_one h hl
  obtain ⟨nd2, q1, q2, _, q3⟩ := place_one h hl2
  obtain rfl : nd = nd2 := by rw [h1] at q1; injection q1
  refine ⟨fun hx => ?_, fun i hx => ?_⟩
  · unfold stepE
    rw [hk] at hx
    rw [if_neg (by simp), h3]
    simp only
    rw [if_neg (by simp), hx]
    simp
  · obtain ⟨f, f1, f2⟩ := hf _ i hx
    obtain ⟨n1, n2, n3⟩ := kid_ne h hx hf
    have e : stepE E ⟨5, l, l2, []⟩ = match look nd.kids (toB z2) with
        | none => (0, putEx (takeEx E 1 (toB z)) 1 (toB z2) i)
        | some old => match look E.nodes old with
          | none => (0, E)
          | some fo => if fo.dir = true then (10, E) else if old = i then (0, E) else (0, putEx (takeEx (takeEx E 1 (toB z2)) 1 (toB z)) 1 (toB z2) i) := by
      have hx' := hx
      unfold stepE
      rw [hk] at hx'
      rw [if_neg (by simp), h3]
      simp only
      rw [if_neg (by simp), hx']
      simp only
      rw [if_neg (by decide), f1]
      simp only
      rw [if_neg (by decide), f2, q3]
      cases hh : look nd.kids (toB z2) with
      | none => simp [hh]
      | some old =>
        cases hh2 : look E.nodes old with
        | none => simp [hh, hh2]
        | some fo => simp [hh, hh2]
    rw [e]
    cases hz2 : look nd.kids (toB z2) with
    | none =>
      simp only
      obtain ⟨t1, t2, ⟨nt, t3, t3'⟩, ⟨ft, t4, t4'⟩, t5, t6⟩ := take_one h hf hx
      obtain ⟨p1, p2, p3⟩ := put_one t3 t3' t1 n1 t4 t4' (toB z2) (fun x j hj => by
        rw [t6] at hj
        by_cases e1 : x = toB z
        · rw [if_pos e1] at hj; cases hj
        · rw [if_neg e1] at hj; exact (kid_ne h hj hf).1)
      refine ⟨by first | rfl | trivial, p1, by rw [p2, t2], fun x => by rw [p3, t6]⟩
    | some old =>
      have hz2' : look (kidsE E) (toB z2) = some old := by rw [hk]; exact hz2
      obtain ⟨fo, o1, o2⟩ := hf _ old hz2'
      simp only
      rw [o1]
      simp only
      rw [if_neg (by rw [o2]; decide)]
      by_cases hoi : old = i
      · rw [if_pos hoi]
        have hzz : toB z2 = toB z := hi _ _ i (hoi ▸ hz2') hx
        refine ⟨by first | rfl | trivial, hf, rfl, fun x => ?_⟩
        by_cases e1 : x = toB z2
        · rw [if_pos e1, e1, hzz]; exact hx
        · rw [if_neg e1, if_neg (by rw [← hzz]; exact e1)]
      · rw [if_neg hoi]
        have hne : toB z ≠ toB z2 := fun e => hoi (by rw [← e, hx] at hz2'; injection hz2' with h; exact h.symm)
        have hI2 := h.take h1 hz2 o1 o2
        obtain ⟨t1, t2, _, _, _, t6⟩ := take_one h hf hz2'
        have hx2 : look (kidsE (takeEx E 1 (toB z2))) (toB z) = some i := by rw [t6, if_neg hne]; exact hx
        obtain ⟨s1, s2, ⟨ns, s3, s3'⟩, ⟨fs, s4, s4'⟩, _, s6⟩ := take_one hI2 t1 hx2
        obtain ⟨p1, p2, p3⟩ := put_one s3 s3' s1 n1 s4 s4' (toB z2) (fun x j hj => by
          rw [s6] at hj
          by_cases e1 : x = toB z
          · rw [if_pos e1] at hj; cases hj
          · rw [if_neg e1] at hj; exact (kid_ne hI2 hj t1).1)
        refine ⟨by first | rfl | trivial, p1, by rw [p2, s2, t2], fun x => ?_⟩
        rw [p3, s6, t6]
        by_cases e1 : x = toB z2
        · rw [if_pos e1, if_pos e1]
        · rw [if_neg e1, if_neg e1, if_neg e1]
theorem reap_one {E : Et} {B : Nat} (h : Inv E B) (hf : FlE E) (i : Int) : FlE (reap1 E i) ∧ kidsE (reap1 E i) = kidsE E ∧ (reap1 E i).next = E.next := by
  unfold reap1
  cases hi : look E.nodes i with
  | none => exact ⟨hf, rfl, rfl⟩
  | some n =>
    simp only
    split
    · rename_i hl
      obtain ⟨r1, r2, _⟩ := h.reap hi hl
      obtain ⟨nd, h1, h2⟩ := h.root
      have hroot : look (del E.nodes i) 1 = some nd := by rw [look_del_ne (Ne.symm r1)]; exact h1
      have hkk : kidsE { E with nodes := del E.nodes i } = nd.kids := kids_of2 hroot
      refine ⟨fun x j hx => ?_, by rw [hkk, kids_of h1], rfl⟩
      rw [hkk] at hx
      obtain ⟨g, g1, g2⟩ := hf x j (by rw [kids_of h1]; exact hx)
      have hji : j ≠ i := refs_zero r2 (look_mem h1) (look_mem hx)
      exact ⟨g, by show look (del _ _) j = _; rw [look_del_ne hji]; exact g1, g2⟩
    · exact ⟨hf, rfl, rfl⟩
theorem reap_all {B : Nat} (ids : List Int) : ∀ {E : Et}, Inv E B → FlE E → FlE (reapE E ids) ∧ kidsE (reapE E ids) = kidsE E ∧ (reapE E ids).next = E.next := by
  induction ids with
  | nil => intro E h hf; exact ⟨hf, rfl, rfl⟩
  | cons i r ih =>
    intro E h hf
    obtain ⟨a1, a2, a3⟩ := reap_one h hf i
    obtain ⟨b1, b2, b3⟩ := ih (reap1_inv h i) a1
    exact ⟨b1, b2.trans a2, b3.trans a3⟩
theorem sweep_one {E : Et} {B : Nat} (h : Inv E B) (hf : FlE E) (held : List (Int × Int)) : FlE (sweepE E held) ∧ kidsE (sweepE E held) = kidsE E ∧ (sweepE E held).next = E.next := by
  rw [← sweep_eq h.keys (List.Perm.refl _) held]
  exact reap_all _ h hf
theorem let_one {X : VX} {B : Nat} (h : Inv X.E B) (hf : FlE X.E) (i : Int) : FlE (letX X i).E ∧ kidsE (letX X i).E = kidsE X.E ∧ (letX X i).E.next = X.E.next ∧ Inv (letX X i).E B := by
  unfold letX
  split
  · exact ⟨hf, rfl, rfl, h⟩
  · split
    · obtain ⟨a, b, c⟩ := reap_all [i] h hf
      exact ⟨a, b, c, reapE_inv [i] h⟩
    · exact ⟨hf, rfl, rfl, h⟩
theorem let_all {B : Nat} (ids : List Int) : ∀ {X : VX}, Inv X.E B → FlE X.E → FlE (letAll X ids).E ∧ kidsE (letAll X ids).E = kidsE X.E ∧ (letAll X ids).E.next = X.E.next ∧ Inv (letAll X ids).E B := by
  induction ids with
  | nil => intro X h hf; exact ⟨hf, rfl, rfl, h⟩
  | cons i r ih =>
    intro X h hf
    obtain ⟨a1, a2, a3, a4⟩ := let_one h hf i
    obtain ⟨b1, b2, b3, b4⟩ := ih a4 a1
    exact ⟨b1, b2.trans a2, b3.trans a3, b4⟩
end Go.Proofs.YtkhnkidggcjfeaaGreatDoor
end
section
namespace Go.Proofs.YtkhnkidggcjfeaaGreatDoor
open Go.RowKit
open Go.ChangeMaps (setBlock)
theorem do_one {E : Et} {o : OpE} (h : (DoE E [o]).1 = 0) : (stepE E o).1 = 0 ∧ (DoE E [o]).2 = (stepE E o).2 := by
  have e : doS E [o] = if (stepE E o).1 = 0 then (0, (stepE E o).2) else ((stepE E o).1, E) := rfl
  have h0 : (stepE E o).1 = 0 := by
    apply Classical.byContradiction
    intro hn
    unfold DoE at h
    rw [e, if_neg hn] at h
    simp only [hn, if_false] at h
  refine ⟨h0, ?_⟩
  rw [if_pos h0] at e
  unfold DoE at h ⊢
  rw [e] at h ⊢
  simp only [if_true] at h ⊢
  split
  · rfl
  · rename_i hn
    rw [if_neg hn] at h
    exact absurd h hn
theorem do_two {E : Et} {o o2 : OpE} (h : (DoE E [o, o2]).1 = 0) : (stepE E o).1 = 0 ∧ (stepE (stepE E o).2 o2).1 = 0 ∧ (DoE E [o, o2]).2 = (stepE (stepE E o).2 o2).2 := by
  have e : doS E [o, o2] = if (stepE E o).1 = 0 then (if (stepE (stepE E o).2 o2).1 = 0 then (0, (stepE (stepE E o).2 o2).2) else ((stepE (stepE E o).2 o2).1, (stepE E o).2)) else ((stepE E o).1, E) := rfl
  have h0 : (stepE E o).1 = 0 := by
    apply Classical.byContradiction
    intro hn
    unfold DoE at h
    rw [e, if_neg hn] at h
    simp only [hn, if_false] at h
  rw [if_pos h0] at e
  have h1 : (stepE (stepE E o).2 o2).1 = 0 := by
    apply Classical.byContradiction
    intro hn
    unfold DoE at h
    rw [e, if_neg hn] at h
    simp only [hn, if_false] at h
  refine ⟨h0, h1, ?_⟩
  rw [if_pos h1] at e
  unfold DoE at h ⊢
  rw [e] at h ⊢
  simp only [if_true] at h ⊢
  split
  · rfl
  · rename_i hn
    rw [if_neg hn] at h
    exact absurd h hn
def nNew : Nm := [110, 101, 119]
def nAway : Nm := [97, 119, 97, 121]
def pNew : Nm := [47, 110, 101, 119]
def pAway : Nm := [47, 97, 119, 97, 121]
theorem one_new : One pNew nNew := ⟨by decide, by decide⟩
theorem one_away : One pAway nAway := ⟨by decide, by decide⟩
structure Fs (E : Et) : Prop where
  fl : FlE E
  inj : InjE E
  new_ : look (kidsE E) (toB nNew) = none
  away : look (kidsE E) (toB nAway) = none
theorem Fs.same {E E' : Et} (h : Fs E) (hf : FlE E') (hk : ∀ x, look (kidsE E') x = look (kidsE E) x) : Fs E' :=
  ⟨hf, fun x y i hx hy => h.inj x y i (by rw [← hk]; exact hx) (by rw [← hk]; exact hy), by rw [hk]; exact h.new_, by rw [hk]; exact h.away⟩
theorem Fs.put {E E' : Et} (h : Fs E) {z : ByteArray} {i : Int} (hf : FlE E') (hk : ∀ x, look (kidsE E') x = if x = z then some i else look (kidsE E) x) (hi : ∀ x, look (kidsE E) x ≠ some i) (h1 : z ≠ toB nNew) (h2 : z ≠ toB nAway) : Fs E' := by
  refine ⟨hf, fun x y j hx hy => ?_, by rw [hk, if_neg (Ne.symm h1)]; exact h.new_, by rw [hk, if_neg (Ne.symm h2)]; exact h.away⟩
  rw [hk] at hx hy
  by_cases e1 : x = z
  · rw [if_pos e1] at hx
    injection hx with hx
    by_cases e2 : y = z
    · rw [e1, e2]
    · rw [if_neg e2, ← hx] at hy; exact absurd hy (hi y)
  · rw [if_neg e1] at hx
    by_cases e2 : y = z
    · rw [if_pos e2] at hy
      injection hy with hy
      rw [← hy] at hx; exact absurd hx (hi x)
    · rw [if_neg e2] at hy
      exact h.inj x y j hx hy
theorem Fs.del {E E' : Et} (h : Fs E) {z : ByteArray} (hf : FlE E') (hk : ∀ x, look (kidsE E') x = if x = z then none else look (kidsE E) x) : Fs E' := by
  refine ⟨hf, fun x y j hx hy => ?_, ?_, ?_⟩
  · rw [hk] at hx hy
    by_cases e1 : x = z
    · rw [if_pos e1] at hx; cases hx
    · by_cases e2 : y = z
      · rw [if_pos e2] at hy; cases hy
      · rw [if_neg e1] at hx
        rw [if_neg e2] at hy
        exact h.inj x y j hx hy
  · rw [hk]; split
    · rfl
    · exact h.new_
  · rw [hk]; split
    · rfl
    · exact h.away
theorem do_replace {E : Et} {B : Nat} (h : Inv E B) (hF : Fs E) {l z : List UInt8} (hl : One l z) (h1 : toB z ≠ toB nNew) (h2 : toB z ≠ toB nAway) (h0 : (DoE E [⟨2, pNew, [], []⟩, ⟨5, pNew, l, []⟩]).1 = 0) :
    Fs (DoE E [⟨2, pNew, [], []⟩, ⟨5, pNew, l, []⟩]).2 ∧ (DoE E [⟨2, pNew, [], []⟩, ⟨5, pNew, l, []⟩]).2.next = E.next + 1 ∧ ∀ x, look (kidsE (DoE E [⟨2, pNew, [], []⟩, ⟨5, pNew, l, []⟩]).2) x = if x = toB z then some E.next else look (kidsE E) x := by
  obtain ⟨c1, c2, e⟩ := do_two h0
  rw [e]
  obtain ⟨_, s1⟩ := step_create h hF.fl one_new []
  obtain ⟨_, a2, a3, a4⟩ := s1 hF.new_
  have hI := stepE_inv h ⟨2, pNew, [], []⟩
  generalize (stepE E ⟨2, pNew, [], []⟩).2 = E1 at *
  have hnx : ∀ x, look (kidsE E) x ≠ some E.next := fun x hx => by
    have := (kid_ne h hx hF.fl).2.1; omega
  have hinj : InjE E1 := fun x y i hx hy => by
    rw [a4] at hx hy
    by_cases e1 : x = toB nNew
    · rw [if_pos e1] at hx
      injection hx with hx
      by_cases e2 : y = toB nNew
      · rw [e1, e2]
      · rw [if_neg e2, ← hx] at hy; exact absurd hy (hnx y)
    · rw [if_neg e1] at hx
      by_cases e2 : y = toB nNew
      · rw [if_pos e2] at hy
        injection hy with hy
        rw [← hy] at hx; exact absurd hx (hnx x)
      · rw [if_neg e2] at hy
        exact hF.inj x y i hx hy
  obtain ⟨_, s2⟩ := step_rename hI a2 hinj one_new hl
  obtain ⟨_, b2, b3, b4⟩ := s2 E.next (by rw [a4, if_pos rfl])
  have hk : ∀ x, look (kidsE (stepE E1 ⟨5, pNew, l, []⟩).2) x = if x = toB z then some E.next else look (kidsE E) x := fun x => by
    rw [b4]
    by_cases e1 : x = toB z
    · rw [if_pos e1, if_pos e1]
    · rw [if_neg e1, if_neg e1]
      by_cases e2 : x = toB nNew
      · rw [if_pos e2, e2, hF.new_]
      · rw [if_neg e2, a4, if_neg e2]
  exact ⟨hF.put b2 hk hnx h1 h2, by rw [b3, a3], hk⟩
theorem do_unlink {E : Et} {B : Nat} (h : Inv E B) (hF : Fs E) {l z : List UInt8} (hl : One l z) (h0 : (DoE E [⟨6, l, [], []⟩]).1 = 0) :
    Fs (DoE E [⟨6, l, [], []⟩]).2 ∧ (DoE E [⟨6, l, [], []⟩]).2.next = E.next ∧ ∀ x, look (kidsE (DoE E [⟨6, l, [], []⟩]).2) x = if x = toB z then none else look (kidsE E) x := by
  obtain ⟨c1, e⟩ := do_one h0
  rw [e]
  obtain ⟨s0, s1⟩ := step_unlink h hF.fl hl []
  cases hz : look (kidsE E) (toB z) with
  | none => exact absurd c1 (s0 hz)
  | some i =>
    obtain ⟨_, a2, a3, a4⟩ := s1 i hz
    exact ⟨hF.del a2 a4, a3, a4⟩
theorem do_write {E : Et} {B : Nat} (h : Inv E B) (hF : Fs E) {l z : List UInt8} (hl : One l z) {zs : List Int} (hz : zs.length ≤ 3500) (h0 : (DoE E [⟨3, l, [], zs⟩]).1 = 0) :
    Fs (DoE E [⟨3, l, [], zs⟩]).2 ∧ (DoE E [⟨3, l, [], zs⟩]).2.next = E.next ∧ ∀ x, look (kidsE (DoE E [⟨3, l, [], zs⟩]).2) x = look (kidsE E) x := by
  obtain ⟨c1, e⟩ := do_one h0
  rw [e]
  obtain ⟨s0, s1⟩ := step_write h hF.fl hl [] zs hz
  cases hx : look (kidsE E) (toB z) with
  | none => exact absurd c1 (s0 hx)
  | some i =>
    obtain ⟨_, a2, a3, a4⟩ := s1 i hx
    exact ⟨hF.same a2 a4, a3, a4⟩
theorem do_away {E : Et} {B : Nat} (h : Inv E B) (hF : Fs E) {l z : List UInt8} (hl : One l z) (h2 : toB z ≠ toB nAway) (h0 : (DoE E [⟨5, l, pAway, []⟩, ⟨5, pAway, l, []⟩]).1 = 0) :
    Fs (DoE E [⟨5, l, pAway, []⟩, ⟨5, pAway, l, []⟩]).2 ∧ (DoE E [⟨5, l, pAway, []⟩, ⟨5, pAway, l, []⟩]).2.next = E.next ∧ ∀ x, look (kidsE (DoE E [⟨5, l, pAway, []⟩, ⟨5, pAway, l, []⟩]).2) x = look (kidsE E) x := by
  obtain ⟨c1, c2, e⟩ := do_two h0
  rw [e]
  obtain ⟨s0, s1⟩ := step_rename h hF.fl hF.inj hl one_away
  cases hx : look (kidsE E) (toB z) with
  | none => exact absurd c1 (s0 hx)
  | some i =>
    obtain ⟨_, a2, a3, a4⟩ := s1 i hx
    have hI := stepE_inv h ⟨5, l, pAway, []⟩
    generalize (stepE E ⟨5, l, pAway, []⟩).2 = E1 at *
    have hinj : InjE E1 := fun x y j hx2 hy => by
      rw [a4] at hx2 hy
      have key : ∀ u, (if u = toB nAway then some i else if u = toB z then none else look (kidsE E) u) = some j → (u = toB nAway ∧ j = i) ∨ (u ≠ toB nAway ∧ u ≠ toB z ∧ look (kidsE E) u = some j) := fun u hu => by
        by_cases e1 : u = toB nAway
        · rw [if_pos e1] at hu; injection hu with hu; exact .inl ⟨e1, hu.symm⟩
        · rw [if_neg e1] at hu
          by_cases e2 : u = toB z
          · rw [if_pos e2] at hu; cases hu
          · rw [if_neg e2] at hu; exact .inr ⟨e1, e2, hu⟩
      rcases key x hx2 with ⟨u1, u2⟩ | ⟨u1, u2, u3⟩ <;> rcases key y hy with ⟨v1, v2⟩ | ⟨v1, v2, v3⟩
      · rw [u1, v1]
      · exact absurd (hF.inj y (toB z) i (u2 ▸ v3) hx) v2
      · exact absurd (hF.inj x (toB z) i (v2 ▸ u3) hx) u2
      · exact hF.inj x y j u3 v3
    obtain ⟨_, s2⟩ := step_rename hI a2 hinj one_away hl
    obtain ⟨_, b2, b3, b4⟩ := s2 i (by rw [a4, if_pos rfl])
    have hk : ∀ x, look (kidsE (stepE E1 ⟨5, pAway, l, []⟩).2) x = look (kidsE E) x := fun x => by
      rw [b4]
      by_cases e1 : x = toB z
      · rw [if_pos e1, e1, hx]
      · rw [if_neg e1]
        by_cases e2 : x = toB nAway
        · rw [if_pos e2, e2, hF.away]
        · rw [if_neg e2, a4, if_neg e2, if_neg e1]
    exact ⟨hF.same b2 hk, by rw [b3, a3], hk⟩
theorem Fs.sweep {E : Et} {B : Nat} (h : Inv E B) (hF : Fs E) (held : List (Int × Int)) : Fs (sweepE E held) ∧ kidsE (sweepE E held) = kidsE E ∧ (sweepE E held).next = E.next := by
  obtain ⟨a, b, c⟩ := sweep_one h hF.fl held
  exact ⟨hF.same a (fun x => by rw [b]), b, c⟩
end Go.Proofs.YtkhnkidggcjfeaaGreatDoor
end
section
namespace Go.Proofs.YtkhnkidggcjfeaaGreatDoor
open Go.RowKit
open Go.ChangeMaps (setBlock)
def staleE (E : Et) (p : Nm) (i : Int) : Bool := !(findX E p).isSome || ((findX E p).getD 0 != i)
def mapsV (V : MV) (pid : Int) : List Int := ((look V.runs pid).map (·.2.1)).getD []
def ofN (V : MV) (n : Nm) : Bool := ((mapsV V (ofV V n).pid).zip (ofV V n).files).any fun q => staleE V.E q.2 q.1
section
variable {w0 w w1 w' : World} {K : Blocks} {L0 : List Rw} {v mb tb gb N : Nat} {us : List GU} {ord : OrdX} {V : MV} {X : VX} {Y : Tab}
set_option maxHeartbeats 1000000 in
theorem stale_at (h : MgAt w0 v mb tb gb us ord N V w) (hm : Mx w0) (p : Nm) (hp : p.length ≤ 1000000) (i : Int) :
    Calls Tryz.prog 14 #[.pointer (some ⟨v, 0, none⟩), .string (toB p), .int .i64 i] w fun e w' => e = .returned (.bool (staleE V.E p i)) ∧ Below w.heap.size w w' := by
  obtain ⟨K, L0, X, Y, M, h, rfl, rfl, rfl, rfl, hg, hG⟩ := h
  obtain ⟨o, h1, _⟩ := h.x
  obtain ⟨S, R, L, T, hI, _⟩ := h1.vt
  have c0 := hI.atV.1.1
  have hf := hI.find hm (toB p) (by rw [toB_size]; unfold maxLen; omega)
  have HD := Lib.hid (show staleE (vw X Y M).E p i = (!(findX X.E p).isSome || ((findX X.E p).getD 0 != i)) from rfl)
  obtain ⟨r, hr⟩ : ∃ r, staleE (vw X Y M).E p i = r := ⟨_, rfl⟩
  rw [hr] at HD ⊢
  have e : (toB p).data.toList = p := by simp
  rw [e] at hf
  clear h h1 hI hg hG hr e
  generalize (findX X.E p).getD 0 = j at *
  generalize (findX X.E p).isSome = ok at *
  generalize toB p = pb at *
  cases ok with
  | false =>
    obtain rfl : r = true := HD.out
    go_enter Tryz.func14, Tryz.ntmps14
    go_wp2_with fail
    refine hf.mono ?_
    rintro e w2 ⟨rfl, hb⟩
    clear hf
    go_wp2_with fail
    go_ret
    exact ⟨rfl, hb⟩
  | true =>
    have HD2 := Lib.hid (show r = (j != i) from HD.out)
    go_enter Tryz.func14, Tryz.ntmps14
    go_wp2_with fail
    refine hf.mono ?_
    rintro e w2 ⟨rfl, hb⟩
    clear hf
    go_wp2_with fail
    go_ret
    exact ⟨by rw [HD2.out]; rfl, hb⟩
theorem get_noB (h : VT w0 K L0 v X Y w) (i : Int) (hp : look Y.runs i = none) : Calls Tryz.prog 39 #[.pointer (some ⟨Y.tb, 0, none⟩), .int .i64 i] w fun e w' => e = .returned (.tuple #[.agg zQ.toArray, .bool false]) ∧ Below w.heap.size w w' := by
  obtain ⟨t0, t1, t2⟩ := h.tab
  have hO := (Own.start w).boxQ zQ rfl w.heap.size rfl
  have h2 := h.later hO.below
  obtain ⟨_, _, d2⟩ := h2.tab
  have hl := h2.foundNo hp
  have cr := Lib.hid (hO.rangeQ rfl)
  have H := Lib.hid hO.below
  unfold zQ at *
  clear h hp h2 hO
  go_enter Tryz.func39, Tryz.ntmps39
  go_wp2_with fail
  refine bodyPost_ret (v := .tuple #[.agg zQ.toArray, .bool false]) (ret_cell_tmpT Tryz.results39 rfl rfl cr.out Tryz.underlying93 rfl info_proc) rfl ?_
  exact ⟨rfl, H.out⟩
theorem mget_at (h : MgAt w0 v mb tb gb us ord N V w) (pid : Int) : Calls Tryz.prog 39 #[.pointer (some ⟨tb, 0, none⟩), .int .i64 pid] w fun e w' => ∃ (q : Int) (u : ByteArray) (am : Option Addr) (cm : Nat) (en ok : Bool), e = .returned (.tuple #[.agg #[.int .i64 q, .string u, .slice am (mapsV V pid).length cm, .bool en], .bool ok]) ∧ Own w w' [rowI (.slice am (mapsV V pid).length cm) (mapsV V pid)] := by
  obtain ⟨K, L0, X, Y, M, h, rfl, rfl, rfl, rfl, hg, hG⟩ := h
  obtain ⟨o, h1, _⟩ := h.x
  have hV := h1.vt
  have hm : mapsV (vw X Y M) pid = ((look Y.runs pid).map (·.maps)).getD [] := by
    unfold mapsV
    rw [runs_vw]
    cases look Y.runs pid <;> rfl
  cases hl : look Y.runs pid with
  | none =>
    rw [hm, hl]
    refine (get_noB hV pid hl).mono fun e w' hd => ?_
    obtain ⟨e1, hb⟩ := hd
    exact ⟨0, ⟨#[]⟩, none, 0, false, false, e1, (Own.of_below hb).nil _ _⟩
  | some p =>
    rw [hm, hl]
    have hml : p.maps.length ≤ 8 := (hG.each (pid, vwP p) (List.mem_map.2 ⟨_, look_mem hl, rfl⟩)).2
    refine (get_yes hV pid hl (by omega)).mono fun e w' hd => ?_
    obtain ⟨mv, e1, _, hO⟩ := hd
    obtain ⟨a, c, ev, _, _⟩ := Own.sized (h := (show Own w w' (⟨3, 1, mv, p.maps.length, ints p.maps⟩ :: []) from hO))
    subst ev
    exact ⟨pid, p.u, a, c, p.ends, true, e1, hO⟩
theorem zip_any_succ (f : Int × Nm → Bool) (l : List (Int × Nm)) (k : Nat) (h : k < l.length) : (l.take (k + 1)).any f = ((l.take k).any f || f l[k]) := by
  rw [List.take_succ_eq_append_getElem h, List.any_append, List.any_cons, List.any_nil, Bool.or_false]
set_option maxHeartbeats 8000000 in
theorem of_at (h : MgAt w0 v mb tb gb us ord N V w) (hm : Mx w0) (n : Nm) (hlen : (mapsV V (ofV V n).pid).length = (ofV V n).files.length) (hsm : (ofV V n).files.length ≤ 1000) (hf : ∀ p ∈ (ofV V n).files, p.length ≤ 1000000) :
    Calls Tryz.prog 13 #[.pointer (some ⟨v, 0, none⟩), .pointer (some ⟨mb, 0, none⟩), .string (toB n)] w fun e w' => e = .returned (.bool (ofN V n)) ∧ Below w.heap.size w w' := by
  have H := Lib.hid h
  have c0 := mgcells h
  have hpid := pid_at h n
  have hpidd := pid_at h.drew n
  have HA := Lib.hid ((Own.start w).drew.boxQ zQ rfl w.heap.size rfl)
  have hbA := HA.out.below
  have hpida := pid_at (h.later hbA) n
  have c0a := mgcells (h.later hbA)
  have c0d := mgcells h.drew
  have HA2 := Lib.hid ((Own.start w).boxQ zQ rfl w.heap.size rfl).drew
  have hbA2 := HA2.out.below
  have hpidb := pid_at (h.later hbA2) n
  have hpidc := pid_at (h.later ((Own.start w).boxQ zQ rfl w.heap.size rfl).below) n
  have c0b := mgcells (h.later hbA2)
  have c0c := mgcells (h.later ((Own.start w).boxQ zQ rfl w.heap.size rfl).below)
  unfold zQ at HA hbA hpida c0a HA2 hbA2 hpidb hpidc c0b c0c
  have HG := Lib.hid (fun w9 (hb : Below w.heap.size w w9) => mget_at (h.later hb) (ofV V n).pid)
  have HH := Lib.hid (fun w9 (hb : Below w.heap.size w w9) => has_at (h.later hb) n (by omega))
  have HS := Lib.hid (fun w9 (hb : Below w.heap.size w w9) (p : Nm) (hp : p ∈ (ofV V n).files) (i : Int) => stale_at (h.later hb) hm p (hf p hp) i)
  have HC := Lib.hid (fun w9 (hb : Below w.heap.size w w9) => mgcells (h.later hb))
  have HQ := Lib.hid (show ofN V n = ((mapsV V (ofV V n).pid).zip (ofV V n).files).any fun q => staleE V.E q.2 q.1 from rfl)
  obtain ⟨Q, hQ⟩ : ∃ Q, ofN V n = Q := ⟨_, rfl⟩
  rw [hQ] at HQ ⊢
  clear h hQ hm hf
  generalize mapsV V (ofV V n).pid = ms at *
  generalize (ofV V n).files = fs at *
  generalize (ofV V n).pid = pid at *
  generalize toB n = nb at *
  generalize V.E = E at *
  have Hlen := Lib.hid hlen
  obtain ⟨m, hmq⟩ : ∃ m, fs.length = m := ⟨_, rfl⟩
  rw [hlen, hmq] at HG
  rw [hmq] at hlen hsm
  have Hms := Lib.hid hlen
  have Hfs := Lib.hid hmq
  have hsm2 : (m : Int) ≤ 1000 := by omega
  clear hlen hmq
  go_enter Tryz.func13, Tryz.ntmps13
  go_upto_region 1 with fail
  go_cut [7] (fun s wc => ∃ (Hb : Nat) (q : Int) (u : ByteArray) (am : Option Addr) (cm : Nat) (en : Bool), s = .pointer (some ⟨Hb, 0, none⟩) ∧ Own w wc [rQ Hb [.int .i64 q, .string u, .slice am m cm, .bool en]] ∧ StI wc (.slice am ms.length cm) ms)
  case first =>
    go_region_with (first
      | (go_at_call 40; (first | refine hpid.mono ?_ | refine hpidd.mono ?_ | refine hpida.mono ?_ | refine hpidb.mono ?_ | refine hpidc.mono ?_); rintro e w4 ⟨rfl, rfl⟩)
      | (go_at_call 39; first
        | (refine (HG.out _ (by first | exact Below.refl _ _ | exact (Below.refl _ _).drew)).mono ?_; rintro e w5 ⟨q, u, am, cm, en, ok, rfl, hO5⟩; have hb5 : Below w.heap.size w w5 := (by first | exact hO5.below | exact ((Below.refl w.heap.size w).drew).trans hO5.below); have c5 := HC.out w5 hb5; have HB5 := Lib.hid hb5; have HO5 := Lib.hid hO5.stI; clear hO5 hb5)
        | (refine (HG.out _ hbA).mono ?_; rintro e w5 ⟨q, u, am, cm, en, ok, rfl, hO5⟩; have HJ5 := Lib.hid (HA.out.join hO5); have hb5 : Below w.heap.size w w5 := (HA.out.join hO5).below; have c5 := HC.out w5 hb5; obtain ⟨⟨z0, z1, z2, z3⟩, f0, f1, f2, f3⟩ := Own.cellsQ (h := (HA.out.join hO5).swap); have HO5 := Lib.hid hO5.stI; clear hO5 hb5)
        | (refine (HG.out _ hbA2).mono ?_; rintro e w5 ⟨q, u, am, cm, en, ok, rfl, hO5⟩; have HJ5 := Lib.hid (HA2.out.join hO5); have hb5 : Below w.heap.size w w5 := (HA2.out.join hO5).below; have c5 := HC.out w5 hb5; obtain ⟨⟨z0, z1, z2, z3⟩, f0, f1, f2, f3⟩ := Own.cellsQ (h := (HA2.out.join hO5).swap); have HO5 := Lib.hid hO5.stI; clear hO5 hb5)))
    all_goals
      go_wp2_with fail
      go_meet
      first
      | (have HX := (Own.of_below HB5.out).boxQ [.int .i64 q, .string u, .slice am m cm, .bool en] rfl w5.heap.size rfl
         exact ⟨_, q, u, am, cm, en, rfl, HX, (by rw [Hms.out]; exact HO5.out.later ((Below.refl _ w5).alloc (Nat.le_refl _) _))⟩)
      | (have h9 := Own.setCells (h := (show Own w w5 (⟨93, 4, .slice (some ⟨w.heap.size, 0, none⟩) 1 1, 1, zQ⟩ :: [rowI (.slice am m cm) ms]) from HJ5.out.swap)) [.int .i64 q, .string u, .slice am m cm, .bool en] 0
         have e9 : splice zQ 0 [Value.int .i64 q, .string u, .slice am m cm, .bool en] = [Value.int .i64 q, .string u, .slice am m cm, .bool en] := splice_all' _ _ rfl
         rw [e9] at h9
         exact ⟨w.heap.size, q, u, am, cm, en, rfl, h9.only (List.mem_cons_self ..), (by rw [Hms.out]; exact h9.tail.stI)⟩)
  case rest =>
    obtain ⟨Hb, q, u, am, cm, en, rfl, hO, hSt⟩ := hcut
    have HB := Lib.hid hO.below
    have HO := Lib.hid hO
    have HSt := Lib.hid hSt
    have hha := HH.out wc hO.below
    clear hO hSt hpid hpidd hpida hpidb hpidc c0 c0a c0b c0c c0d HA HA2 hbA hbA2 HG HH
    go_wp2_with fail
    refine hha.mono ?_
    rintro e w7 ⟨v7, rfl, hO7⟩
    have hb7 := hO7.below
    have HB7 := Lib.hid (HB.out.trans (hb7.mono HB.out.size))
    have hst7 := hO7.sts
    obtain ⟨af, cf, hv7, hcf, hcm, _⟩ := id hst7
    rw [Hfs.out] at hv7 hcf
    subst hv7
    have hcf2 : (m : Int) ≤ (cf : Int) := by omega
    have HF7 := Lib.hid hst7
    have HS7 := Lib.hid (HSt.out.later hb7)
    have HQ7 := Lib.hid (HO.out.later hb7)
    obtain ⟨⟨z0, z1, z2, z3⟩, _⟩ := Own.cellsQ (h := HQ7.out)
    obtain ⟨am', cm', em, hcm1, hcm2, _⟩ := id HS7.out
    rw [Hms.out] at em hcm1
    injection em with em1 _ em3
    subst em1 em3
    have hcm3 : (m : Int) ≤ (cm : Int) := by omega
    have hcm4 : (cm : Int) ≤ 9223372036854775807 := by unfold maxLen at hcm2; omega
    have hm0 : (0 : Int) ≤ (m : Int) := by omega
    clear hha hO7 hst7 hb7 hcm1 hcm2 hcf hcm
    have HFa := Lib.hid (fun (wr : World) (hb : Below w7.heap.size w7 wr) (k : Nat) (hk : k < fs.length) => (show ∃ b o, af = some ⟨b, o, none⟩ ∧ wr.cell? ⟨b, o + k, none⟩ = some (.string (toB fs[k])) from by
      obtain ⟨a', c', e, _, _, g⟩ := HF7.out.later hb
      injection e with e1 e2 e3
      obtain ⟨b, o, g1, _, g3⟩ := g (by omega)
      exact ⟨b, o, by rw [e1, g1], g3 k hk⟩))
    have HSa := Lib.hid (fun (wr : World) (hb : Below w7.heap.size w7 wr) (k : Nat) (hk : k < ms.length) => (show ∃ b o, am = some ⟨b, o, none⟩ ∧ wr.cell? ⟨b, o + k, none⟩ = some (.int .i64 ms[k]) from by
      obtain ⟨a', c', e, _, _, g⟩ := HS7.out.later hb
      injection e with e1 e2 e3
      obtain ⟨b, o, g1, _, g3⟩ := g (by omega)
      exact ⟨b, o, by rw [e1, g1], g3 k hk⟩))
    clear HF7 HS7
    go_wp2_with fail
    have hzl : (ms.zip fs).length = m := by rw [List.length_zip, Hms.out, Hfs.out, Nat.min_self]
    have Hzl := Lib.hid hzl
    have HZ := Lib.hid (fun (k : Nat) (h1 : k < ms.length) (h2 : k < fs.length) (h3 : k < (ms.zip fs).length) => (show (ms.zip fs)[k] = (ms[k], fs[k]) from List.getElem_zip))
    have Hst := Lib.hid (show ∃ k : Nat, (Value.int .i64 0) = .int .i64 k ∧ k ≤ m ∧ Hid (Below w7.heap.size w7 w7) ∧ Hid (((ms.zip fs).take k).any (fun q => staleE E q.2 q.1) = false) from ⟨0, rfl, Nat.zero_le _, Below.refl _ _, rfl⟩)
    clear hzl z0 z1 z2 z3
    go_loopw [6, 36] (fun s i wr => s = .bool false ∧ ∃ k : Nat, i = .int .i64 k ∧ k ≤ m ∧ Hid (Below w7.heap.size w7 wr) ∧ Hid (((ms.zip fs).take k).any (fun q => staleE E q.2 q.1) = false)) (fun _ i _ => m - (intOf i).toNat)
    case atStart => exact ⟨rfl, Hst.out⟩
    case round =>
      obtain ⟨rfl, k, rfl, hk, HBr, HAny⟩ := hrel
      clear Hst
      by_cases hlt : k < m
      · have hk1 : k < ms.length := by rw [Hms.out]; exact hlt
        have hk2 : k < fs.length := by rw [Hfs.out]; exact hlt
        have hk3 : k < (ms.zip fs).length := by rw [Hzl.out]; exact hlt
        obtain ⟨b1, o1, rfl, q1⟩ := HSa.out wr HBr.out k hk1
        obtain ⟨b2, o2, rfl, q2⟩ := HFa.out wr HBr.out k hk2
        have hbw := HB7.out.trans (HBr.out.mono HB7.out.size)
        have hcall := HS.out wr hbw fs[k] (List.getElem_mem hk2) ms[k]
        have HN := Lib.hid (fun b (hb : staleE E fs[k] ms[k] = b) => (show ((ms.zip fs).take (k + 1)).any (fun q => staleE E q.2 q.1) = b from by rw [zip_any_succ _ _ k hk3, HAny.out, HZ.out k hk1 hk2 hk3, hb]; rfl))
        have HT := Lib.hid (fun (hb : staleE E fs[k] ms[k] = true) => (show Q = true from by
          rw [HQ.out]
          refine List.any_eq_true.2 ⟨(ms.zip fs)[k], List.getElem_mem _, ?_⟩
          rw [HZ.out k hk1 hk2 hk3]
          exact hb))
        clear hbw
        generalize fs[k] = p at *
        generalize ms[k] = x at *
        generalize toB p = pb at *
        have hkz : (k : Int) < (m : Int) := by omega
        cases hs : staleE E p x with
        | true =>
          rw [hs] at hcall
          have HT2 := Lib.hid (HT.out hs)
          clear hs
          go_wp2_with fail
          refine hcall.mono ?_
          rintro e w9 ⟨rfl, hb9⟩
          clear hcall
          go_wp2_with fail
          go_ret
          exact ⟨by rw [HT2.out]; rfl, HB7.out.trans ((HBr.out.trans (hb9.mono HBr.out.size)).mono HB7.out.size)⟩
        | false =>
          rw [hs] at hcall
          have HN2 := Lib.hid (HN.out false hs)
          clear hs
          go_wp2_with fail
          refine hcall.mono ?_
          rintro e w9 ⟨rfl, hb9⟩
          have HB9 := Lib.hid (HBr.out.trans (hb9.mono HBr.out.size))
          clear hcall
          go_wp2_with fail
          go_roundw
          case rel => exact ⟨rfl, k + 1, by go_num, hlt, HB9, HN2⟩
          case measure => simp [intOf]; omega
      · obtain rfl : k = m := by omega
        have hq : Q = false := by
          rw [HQ.out, ← HAny.out, ← Hzl.out, List.take_length]
        have Hq := Lib.hid hq
        have hkz : ¬ (k : Int) < (k : Int) := Int.lt_irrefl _
        clear hq
        go_wp2_with fail
        go_ret
        exact ⟨by rw [Hq.out]; rfl, HB7.out.trans (HBr.out.mono HB7.out.size)⟩
end
end Go.Proofs.YtkhnkidggcjfeaaGreatDoor
end
