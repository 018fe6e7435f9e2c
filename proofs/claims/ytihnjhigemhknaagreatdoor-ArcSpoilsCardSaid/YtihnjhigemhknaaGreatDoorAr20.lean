/- What bytes say that a package was packed to is that package, but for where its files' bytes lie; what bytes say is not greater than they. -/
import Derived.Test.YtihnjhigemhknaaGreatDoorAr19
namespace Go.Proofs.YtihnjhigemhknaaGreatDoor
open Go.RowKit
set_option linter.unusedVariables false
set_option linter.unusedSimpArgs false
set_option maxRecDepth 100000

theorem num4_le4A (n : Int) (h0 : 0 ≤ n) (h1 : n < 4294967296) (l : List Int) : num4 (le4 n ++ l) = n := by
  unfold num4 le4
  simp
  omega
theorem num4_sizedA (zs l : List Int) (h : zs.length < 4294967296) : num4 (sizedL zs ++ l) = zs.length := by
  unfold sizedL
  rw [List.append_assoc, num4_le4A _ (by omega) (by omega)]
theorem isSized_A (zs l : List Int) (most : Int) (h : zs.length < 4294967296) (hm : (zs.length : Int) ≤ most) : isSized (sizedL zs ++ l) most := by
  refine ⟨?_, ?_, ?_⟩
  · rw [List.length_append, sizedL_length]; omega
  · rw [num4_sizedA _ _ h]; exact hm
  · rw [num4_sizedA _ _ h, List.length_append, sizedL_length]; omega
theorem drop4_A (zs l : List Int) : (sizedL zs ++ l).drop 4 = zs ++ l := by
  unfold sizedL le4
  rfl
theorem bodP_sized (most : Int) (a r : List Int) (bad : Bool) (h : a.length < 4294967296) (hm : (a.length : Int) ≤ most) : bodP most (sizedL a ++ r) bad = (a, r, bad) := by
  unfold bodP
  rw [if_pos (isSized_A a r most h hm)]
  unfold bodyOf restOf
  rw [num4_sizedA _ _ h, drop4_A, Int.toNat_natCast, List.take_left' rfl, List.drop_left' rfl]
theorem numP_le4 (most n : Int) (r : List Int) (bad : Bool) (h0 : 0 ≤ n) (h1 : n < 4294967296) (hm : n ≤ most) : numP most (le4 n ++ r) bad = (n, r, bad) := by
  unfold numP
  rw [if_pos ⟨by simp [le4], by rw [num4_le4A _ h0 h1]; exact hm⟩, num4_le4A _ h0 h1]
  rfl
theorem str_sbA (s : ByteArray) : strOfNums (sb s) = s := by
  obtain ⟨⟨l⟩⟩ := s
  unfold strOfNums sb
  congr 1
  simp [List.map_map, Function.comp_def]
theorem mxI_le {n : Nat} (h : n ≤ 100000000) : (n : Int) ≤ mxI := by unfold mxI; omega
theorem runT_flat {α β : Type} (f : List Int → Bool → α × List Int × Bool) (g : β → List Int) (v : β → α) : ∀ (xs : List β) (hx : ∀ x ∈ xs, ∀ r bad, f (g x ++ r) bad = (v x, r, bad)) (hp : ∀ x ∈ xs, 0 < (g x).length) (k : Nat) (hk : (xs.map g).flatten.length ≤ k) (bad : Bool), runT f k (xs.map g).flatten bad = xs.map v
  | [], _, _, k, _, bad => runT_nil f k _ bad rfl
  | x :: xs, hx, hp, k, hk, bad => by
    have h1 := hp x (List.mem_cons_self ..)
    simp only [List.map_cons, List.flatten_cons, List.length_append] at hk ⊢
    obtain ⟨m, rfl⟩ : ∃ m, k = m + 1 := ⟨k - 1, by omega⟩
    rw [runT, if_neg (by rw [List.length_append]; omega), hx x (List.mem_cons_self ..)]
    dsimp only
    rw [runT_flat f g v xs (fun y hy => hx y (List.mem_cons_of_mem _ hy)) (fun y hy => hp y (List.mem_cons_of_mem _ hy)) m (by omega) bad]
theorem tkT_flat {α β : Type} (f : List Int → Bool → α × List Int × Bool) (g : β → List Int) (v : β → α) (xs : List β) (hx : ∀ x ∈ xs, ∀ r bad, f (g x ++ r) bad = (v x, r, bad)) (hp : ∀ x ∈ xs, 0 < (g x).length) (hl : (xs.map g).flatten.length ≤ 16777216) (r : List Int) (bad : Bool) : tkT f (sizedL (xs.map g).flatten ++ r, bad) = xs.map v := by
  have e : inL (sizedL (xs.map g).flatten ++ r) = ((xs.map g).flatten, false) := by
    unfold inL
    rw [bodP_sized _ _ _ _ (by omega) (by omega)]
  unfold tkT
  dsimp only
  rw [e]
  exact runT_flat f g v xs hx hp _ (Nat.le_refl _) false
theorem outL_sized (z r : List Int) (bad : Bool) (hl : z.length ≤ 16777216) : outL (sizedL z ++ r) bad = (r, bad) := by
  unfold outL
  rw [bodP_sized _ _ _ _ (by omega) (by omega)]
theorem textT_textL (s : ByteArray) (hs : s.size ≤ 1000000) (r : List Int) (bad : Bool) : textT (textL s ++ r) bad = (s, r, bad) := by
  unfold textT textL
  rw [bodP_sized _ _ _ _ (by rw [sb_length]; omega) (by rw [sb_length]; unfold mxI; omega), str_sbA]
theorem needT_packN (n : NeedD) (h1 : n.name.size ≤ 1000000) (h2 : n.ver.size ≤ 1000000) (h3 : 0 ≤ n.way ∧ n.way ≤ 3) (r : List Int) (bad : Bool) : needT (packN n ++ r) bad = (n, r, bad) := by
  unfold needT packN
  dsimp only
  rw [List.append_assoc, List.append_assoc, bodP_sized _ _ _ _ (by rw [sb_length]; omega) (by rw [sb_length]; unfold mxI; omega)]
  dsimp only
  rw [numP_le4 _ _ _ _ h3.1 (by omega) (by unfold mxI; omega)]
  dsimp only
  rw [bodP_sized _ _ _ _ (by rw [sb_length]; omega) (by rw [sb_length]; unfold mxI; omega), str_sbA, str_sbA]
theorem fileT_packF (f : FileD) (h1 : f.path.size ≤ 1000000) (h2 : f.data.length ≤ 1000000) (r : List Int) (bad : Bool) : fileT (packF f ++ r) bad = (trip f, r, bad) := by
  unfold fileT packF trip
  dsimp only
  rw [List.append_assoc, List.append_assoc, bodP_sized _ _ _ _ (by rw [sb_length]; omega) (by rw [sb_length]; unfold mxI; omega)]
  dsimp only
  rw [numP_le4 _ _ _ _ (by split <;> decide) (by split <;> decide) (by split <;> decide)]
  dsimp only
  rw [bodP_sized _ _ _ _ (by omega) (by unfold mxI; omega), str_sbA]
  cases f.config <;> rfl
/-- The same packages, but for where files' bytes lie. -/
structure SameP (D D' : PkgD) : Prop where
  name : D'.name = D.name
  ver : D'.ver = D.ver
  needs : D'.needs = D.needs
  confs : D'.confs = D.confs
  files : D'.files.map trip = D.files.map trip
  units : D'.units = D.units
theorem says_pack (D D' : PkgD) (h : Says (packP D) D') (hf : Fits D) (hw : ∀ n ∈ D.needs, 0 ≤ n.way ∧ n.way ≤ 3) (h1 : (D.needs.map packN).flatten.length ≤ 16777216) (h2 : (D.confs.map textL).flatten.length ≤ 16777216) (h3 : (D.files.map packF).flatten.length ≤ 16777216) (h4 : (D.units.map textL).flatten.length ≤ 16777216) : SameP D D' := by
  have b1 : ∀ r bad, bodP mxI (textL D.name ++ r) bad = (sb D.name, r, bad) := fun r bad => bodP_sized _ _ _ _ (by rw [sb_length]; have := hf.name; omega) (by rw [sb_length]; have := hf.name; unfold mxI; omega)
  have b2 : ∀ r bad, bodP mxI (textL D.ver ++ r) bad = (sb D.ver, r, bad) := fun r bad => bodP_sized _ _ _ _ (by rw [sb_length]; have := hf.ver; omega) (by rw [sb_length]; have := hf.ver; unfold mxI; omega)
  obtain ⟨q1, q2, q3, q4, q5, q6⟩ := h
  generalize hA : (D.needs.map packN).flatten = A at *
  generalize hB : (D.confs.map textL).flatten = B at *
  generalize hC : (D.files.map packF).flatten = C at *
  generalize hE : (D.units.map textL).flatten = E at *
  have e0 : packP D = textL D.name ++ (textL D.ver ++ (sizedL A ++ (sizedL B ++ (sizedL C ++ sizedL E)))) := by unfold packP; rw [hA, hB, hC, hE]
  have u1 : un1 (packP D) = (textL D.ver ++ (sizedL A ++ (sizedL B ++ (sizedL C ++ sizedL E))), false) := by unfold un1; rw [e0, b1]
  have u2 : un2 (packP D) = (sizedL A ++ (sizedL B ++ (sizedL C ++ sizedL E)), false) := by unfold un2; rw [u1, b2]
  have u3 : un3 (packP D) = (sizedL B ++ (sizedL C ++ sizedL E), false) := by unfold un3; rw [u2]; exact outL_sized _ _ _ h1
  have u4 : un4 (packP D) = (sizedL C ++ sizedL E, false) := by unfold un4; rw [u3]; exact outL_sized _ _ _ h2
  have u5 : un5 (packP D) = (sizedL E ++ [], false) := by unfold un5; rw [u4, List.append_nil]; exact outL_sized _ _ _ h3
  rw [u1, b2] at q2
  rw [e0, b1] at q1
  rw [u2] at q3
  rw [u3] at q4
  rw [u4] at q5
  rw [u5] at q6
  subst hA hB hC hE
  refine ⟨?_, ?_, ?_, ?_, ?_, ?_⟩
  · rw [q1]; exact str_sbA _
  · rw [q2]; exact str_sbA _
  · rw [q3, tkT_flat needT packN id D.needs (fun x hx r bad => needT_packN x (hf.need x hx).1 (hf.need x hx).2 (hw x hx) r bad) (fun x hx => by unfold packN; rw [List.length_append, sizedL_length]; omega) h1, List.map_id]
  · rw [q4, tkT_flat textT textL id D.confs (fun x hx r bad => textT_textL x (hf.conf x hx) r bad) (fun x hx => by rw [textL_len]; omega) h2, List.map_id]
  · rw [q5, tkT_flat fileT packF trip D.files (fun x hx r bad => fileT_packF x (hf.file x hx).1 (hf.file x hx).2 r bad) (fun x hx => by unfold packF; rw [List.length_append, sizedL_length]; omega) h3]
  · rw [q6, tkT_flat textT textL id D.units (fun x hx r bad => textT_textL x (hf.unit x hx) r bad) (fun x hx => by rw [textL_len]; omega) h4, List.map_id]
/-! ### Packages that are the same may be alike, and are packed alike -/
theorem trip_at {fs gs : List FileD} (h : gs.map trip = fs.map trip) : gs.length = fs.length ∧ ∀ k (h1 : k < fs.length) (h2 : k < gs.length), gs[k].path = fs[k].path ∧ gs[k].config = fs[k].config ∧ gs[k].data = fs[k].data := by
  have hl : gs.length = fs.length := by have := congrArg List.length h; simpa using this
  refine ⟨hl, fun k h1 h2 => ?_⟩
  have h3 : (gs.map trip)[k]? = (fs.map trip)[k]? := by rw [h]
  rw [List.getElem?_map, List.getElem?_map, List.getElem?_eq_getElem h1, List.getElem?_eq_getElem h2] at h3
  have h4 : trip gs[k] = trip fs[k] := by simpa using h3
  unfold trip at h4
  injection h4 with a b
  injection b with b c
  exact ⟨a, b, c⟩
theorem filesOk_same {fs gs : List FileD} (h : gs.map trip = fs.map trip) : filesOk gs = filesOk fs := by
  obtain ⟨hl, hk⟩ := trip_at h
  unfold filesOk
  rw [hl, Bool.eq_iff_iff, List.all_eq_true, List.all_eq_true]
  have hat : ∀ k, k < fs.length → fileAt gs k = fileAt fs k := by
    intro k hkl
    have hg : k < gs.length := by omega
    obtain ⟨p1, p2, p3⟩ := hk k hkl hg
    rw [fileAt_eq gs k hg, fileAt_eq fs k hkl]
    have e1 : fileOk gs[k] = fileOk fs[k] := by unfold fileOk; rw [p1, p3]
    have e2 : lateBad gs k gs[k] = lateBad fs k fs[k] := by
      cases k with
      | zero => rfl
      | succ j => rw [lateBad_succ gs j _ (by omega), lateBad_succ fs j _ (by omega), p1, (hk j (by omega) (by omega)).1]
    have e3 : ((gs.take k).any fun x => withinL gs[k].path.data.toList x.path.data.toList) = ((fs.take k).any fun x => withinL fs[k].path.data.toList x.path.data.toList) := by
      rw [p1]
      have a1 : ∀ xs : List FileD, (xs.any fun x => withinL fs[k].path.data.toList x.path.data.toList) = ((xs.map trip).any fun t => withinL fs[k].path.data.toList t.1.data.toList) := fun xs => by rw [List.any_map]; rfl
      rw [a1, a1, List.map_take, List.map_take, h]
    rw [e1, e2, e3]
  constructor
  · intro hh k hm
    rw [← hat k (List.mem_range.1 hm)]
    exact hh k hm
  · intro hh k hm
    rw [hat k (List.mem_range.1 hm)]
    exact hh k hm
theorem pkOk_same {D D' : PkgD} (h : SameP D D') : pkOk D' = pkOk D := by
  have hl := (trip_at h.files).1
  unfold pkOk fewOk
  rw [h.name, h.ver, h.needs, h.confs, h.units, hl, filesOk_same h.files]
def packT (t : ByteArray × Bool × List Int) : List Int := sizedL (sb t.1) ++ (le4 (if t.2.1 then 1 else 0) ++ sizedL t.2.2)
theorem packF_trip (fs : List FileD) : fs.map packF = (fs.map trip).map packT := by rw [List.map_map]; rfl
theorem packP_same {D D' : PkgD} (h : SameP D D') : packP D' = packP D := by
  unfold packP
  rw [h.name, h.ver, h.needs, h.confs, h.units, packF_trip, h.files, ← packF_trip]
/-! ### What bytes say is not greater than they -/
theorem bodP_fst_le (most : Int) (zs : List Int) (bad : Bool) : (bodP most zs bad).1.length ≤ zs.length := by
  unfold bodP
  split
  · unfold bodyOf; dsimp only; rw [List.length_take, List.length_drop]; omega
  · simp
theorem runT_all {α : Type} (f : List Int → Bool → α × List Int × Bool) (p : α → Prop) (N : Nat) (hp : ∀ zs bad, zs.length ≤ N → p (f zs bad).1) (hl : ∀ zs bad, 0 < zs.length → (f zs bad).2.1.length < zs.length) : ∀ (k : Nat) (zs : List Int) (bad : Bool), zs.length ≤ N → (∀ x ∈ runT f k zs bad, p x) ∧ (runT f k zs bad).length ≤ zs.length
  | 0, zs, bad, _ => ⟨fun x hx => (by simp [runT] at hx), by simp [runT]⟩
  | k + 1, zs, bad, hN => by
    unfold runT
    by_cases h0 : zs.length = 0
    · rw [if_pos h0]; exact ⟨fun x hx => (by cases hx), by simp⟩
    · rw [if_neg h0]
      have h1 := hl zs bad (by omega)
      obtain ⟨i1, i2⟩ := runT_all f p N hp hl k (f zs bad).2.1 (f zs bad).2.2 (by omega)
      refine ⟨fun x hx => ?_, by rw [List.length_cons]; omega⟩
      rcases List.mem_cons.1 hx with rfl | hx
      · exact hp zs bad hN
      · exact i1 x hx
theorem strNums_size (zs : List Int) : (strOfNums zs).size = zs.length := by
  show (List.toArray _).size = _
  simp
theorem tkT_all {α : Type} (f : List Int → Bool → α × List Int × Bool) (p : α → Prop) (N : Nat) (hp : ∀ zs bad, zs.length ≤ N → p (f zs bad).1) (hl : ∀ zs bad, 0 < zs.length → (f zs bad).2.1.length < zs.length) (s : List Int × Bool) (hs : s.1.length ≤ N) : (∀ x ∈ tkT f s, p x) ∧ (tkT f s).length ≤ N := by
  have h := inL_len s.1
  obtain ⟨a, b⟩ := runT_all f p N hp hl (inL s.1).1.length (inL s.1).1 (inL s.1).2 (by omega)
  exact ⟨a, by unfold tkT; omega⟩
theorem textT_size (zs : List Int) (bad : Bool) : (textT zs bad).1.size ≤ zs.length := by
  unfold textT; dsimp only; rw [strNums_size]; exact bodP_fst_le ..
theorem needT_size (zs : List Int) (bad : Bool) : (needT zs bad).1.name.size ≤ zs.length ∧ (needT zs bad).1.ver.size ≤ zs.length := by
  unfold needT
  dsimp only
  rw [strNums_size, strNums_size]
  have h1 := (bodP_le mxI zs bad).1
  have h2 := numP_len mxI (bodP mxI zs bad).2.1 (bodP mxI zs bad).2.2
  have h3 := bodP_fst_le mxI (numP mxI (bodP mxI zs bad).2.1 (bodP mxI zs bad).2.2).2.1 (numP mxI (bodP mxI zs bad).2.1 (bodP mxI zs bad).2.2).2.2
  exact ⟨bodP_fst_le .., by omega⟩
theorem fileT_size (zs : List Int) (bad : Bool) : (fileT zs bad).1.1.size ≤ zs.length ∧ (fileT zs bad).1.2.2.length ≤ zs.length := by
  unfold fileT
  dsimp only
  rw [strNums_size]
  have h1 := (bodP_le mxI zs bad).1
  have h2 := numP_len 1 (bodP mxI zs bad).2.1 (bodP mxI zs bad).2.2
  have h3 := bodP_fst_le mxI (numP 1 (bodP mxI zs bad).2.1 (bodP mxI zs bad).2.2).2.1 (numP 1 (bodP mxI zs bad).2.1 (bodP mxI zs bad).2.2).2.2
  exact ⟨bodP_fst_le .., by omega⟩
theorem says_fits {zs : List Int} {D : PkgD} (h : Says zs D) (hz : zs.length ≤ 1000000) : Fits D := by
  obtain ⟨l1, l2, l3, l4, l5⟩ := un_len zs
  obtain ⟨q1, q2, q3, q4, q5, q6⟩ := h
  have t3 := tkT_all needT (fun n => n.name.size ≤ 1000000 ∧ n.ver.size ≤ 1000000) 1000000 (fun ys bad hy => by have := needT_size ys bad; omega) needT_len (un2 zs) (by omega)
  have t4 := tkT_all textT (fun s => s.size ≤ 1000000) 1000000 (fun ys bad hy => by have := textT_size ys bad; omega) textT_len (un3 zs) (by omega)
  have t5 := tkT_all fileT (fun t => t.1.size ≤ 1000000 ∧ t.2.2.length ≤ 1000000) 1000000 (fun ys bad hy => by have := fileT_size ys bad; omega) fileT_len (un4 zs) (by omega)
  have t6 := tkT_all textT (fun s => s.size ≤ 1000000) 1000000 (fun ys bad hy => by have := textT_size ys bad; omega) textT_len (un5 zs) (by omega)
  have n1 : D.name.size ≤ 1000000 := by rw [q1, strNums_size]; have := bodP_fst_le mxI zs false; omega
  have n2 : D.ver.size ≤ 1000000 := by rw [q2, strNums_size]; have := bodP_fst_le mxI (un1 zs).1 (un1 zs).2; omega
  rw [← q3] at t3
  rw [← q4] at t4
  rw [← q5] at t5
  rw [← q6] at t6
  rw [List.length_map] at t5
  refine ⟨n1, n2, t3.2, t3.1, t4.2, t4.1, t5.2, fun f hf => ?_, t6.2, t6.1⟩
  exact t5.1 (trip f) (List.mem_map_of_mem hf)
end Go.Proofs.YtihnjhigemhknaaGreatDoor
