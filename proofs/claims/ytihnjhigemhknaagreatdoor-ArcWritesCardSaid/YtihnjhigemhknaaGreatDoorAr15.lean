/- unpack: the walk. -/
import Derived.Test.YtihnjhigemhknaaGreatDoorAr14
namespace Go.Proofs.YtihnjhigemhknaaGreatDoor
open Go.RowKit
set_option linter.unusedVariables false
set_option linter.unusedSimpArgs false
set_option maxRecDepth 100000

theorem set6 (w : World) (H : Nat) (a b c d e f : Value) : w.setCells H 0 [a, b, c, d, e, f] = ((((((w.setCell ⟨H, 0, none⟩ a).setCell ⟨H, 1, none⟩ b).setCell ⟨H, 2, none⟩ c).setCell ⟨H, 3, none⟩ d).setCell ⟨H, 4, none⟩ e).setCell ⟨H, 5, none⟩ f) := rfl
theorem says_mk {zs : List Int} {s1 s2 : ByteArray} {ns : List NeedD} {cs us : List ByteArray} {fs : List FileD} (h1 : strOfNums (bodP mxI zs false).1 = s1) (h2 : strOfNums (bodP mxI (un1 zs).1 (un1 zs).2).1 = s2) (h3 : ns = tkT needT (un2 zs)) (h4 : cs = tkT textT (un3 zs)) (h5 : fs.map trip = tkT fileT (un4 zs)) (h6 : us = tkT textT (un5 zs)) : Says zs ⟨s1, s2, ns, cs, fs, us⟩ := ⟨h1.symm, h2.symm, h3, h4, h5, h6⟩
/-- A package whose lists are owned rows, and whose files' bytes lie in owned rows. -/
structure PkIn (L : List Rw) (D : PkgD) (P : PkL) : Prop where
  needs : rowE 53 3 NeedD.cells (.slice P.an D.needs.length P.cn) D.needs ∈ L
  confs : rowE 9 1 (fun s => [Value.string s]) (.slice P.ac D.confs.length P.cc) D.confs ∈ L
  files : rowE 51 3 FileD.cells (.slice P.af D.files.length P.cf) D.files ∈ L
  units : rowE 9 1 (fun s => [Value.string s]) (.slice P.au D.units.length P.cu) D.units ∈ L
  data : ∀ f ∈ D.files, Pc L (.slice f.a f.data.length f.c) f.data
theorem PkIn.mono {L L' : List Rw} {D : PkgD} {P : PkL} (h : PkIn L D P) (hs : ∀ r ∈ L, r ∈ L') : PkIn L' D P :=
  ⟨hs _ h.needs, hs _ h.confs, hs _ h.files, hs _ h.units, fun f hf => (h.data f hf).mono hs⟩
theorem PkIn.at {W0 : Base} {w : World} {L : List Rw} {D : PkgD} {P : PkL} (k : PkIn L D P) (h : Own W0 w L) : PkAt w D P := by
  obtain ⟨s1, s2, ns, cs, fs, us⟩ := D
  obtain ⟨an, cn, ac, cc, af, cf, au, cu⟩ := P
  obtain ⟨x1, x2, e1, _, g1⟩ := rowE_slc h k.needs (fun x => rfl)
  obtain ⟨x3, x4, e2, _, g2⟩ := rowE_slc h k.confs (fun x => rfl)
  obtain ⟨x5, x6, e3, g4, g3⟩ := rowE_slc h k.files (fun x => rfl)
  obtain ⟨x7, x8, e4, _, g5⟩ := rowE_slc h k.units (fun x => rfl)
  injection e1 with e1 _ _
  injection e2 with e2 _ _
  injection e3 with e3 _ e3'
  injection e4 with e4 _ _
  subst e1 e2 e3 e3' e4
  exact ⟨g1, g2, g3, g5, fun f hf => (k.data f hf).by h, g4⟩
theorem pkin_mk {L LF : List Rw} {s1 s2 : ByteArray} {ns : List NeedD} {cs us : List ByteArray} {fs : List FileD} {an ac af au : Option Addr} {cn cc cf cu : Nat}
    (h1 : rowE 53 3 NeedD.cells (.slice an ns.length cn) ns ∈ L) (h2 : rowE 9 1 (fun s => [Value.string s]) (.slice ac cs.length cc) cs ∈ L)
    (h3 : rowE 51 3 FileD.cells (.slice af fs.length cf) fs ∈ L) (h4 : rowE 9 1 (fun s => [Value.string s]) (.slice au us.length cu) us ∈ L)
    (hp : ∀ f ∈ fs, Pc LF (.slice f.a f.data.length f.c) f.data) (hL : ∀ r ∈ LF, r ∈ L) : PkIn L ⟨s1, s2, ns, cs, fs, us⟩ ⟨an, cn, ac, cc, af, cf, au, cu⟩ :=
  ⟨h1, h2, h3, h4, fun f hf => (hp f hf).mono hL⟩
set_option maxHeartbeats 16000000 in
theorem unpack_any (v : Value) (zs : List Int) (w : World) (h : By w v zs) (hz : zs.length ≤ 100000000) :
    Calls Tryz.prog 33 #[v] w fun e w' => ∃ (D : PkgD) (P : PkL) (L : List Rw), e = .returned (.agg #[.string D.name, .string D.ver, .slice P.an D.needs.length P.cn, .slice P.ac D.confs.length P.cc, .slice P.af D.files.length P.cf, .slice P.au D.units.length P.cu]) ∧ Says zs D ∧ PkIn L D P ∧ Own w w' L := by
  obtain ⟨l1, l2, l3, l4, l5⟩ := un_len zs
  have hO0 := (Own.start w).box6 (.string ⟨#[]⟩) (.string ⟨#[]⟩) (.slice none 0 0) (.slice none 0 0) (.slice none 0 0) (.slice none 0 0) 26
  have hrd := rread_rd v zs _ (h.later hO0.below) (by omega) w _ hO0
  have hir : (Tryz.prog.info? 26).map (·.size) = some 6 := by kernel_rfl
  obtain ⟨va, vc, hv, _, _⟩ := h.2.2
  subst hv
  clear h hO0
  go_enter Tryz.func33, Tryz.ntmps33
  go_wp2_with fail
  refine hrd.mono ?_
  rintro e w2 ⟨r, L1, rfl, h2⟩
  have hc := atext_any h2
  have h2' : Rd w w2 (L1 ++ [rowP6 w.heap.size zP6]) r zs false := h2
  have hc : Calls Tryz.prog 55 #[.pointer (some ⟨r, 0, none⟩)] w2 fun e w' => e = .returned (.string (strOfNums (bodP mxI zs false).1)) ∧ Rd w w' (L1 ++ [rowP6 w.heap.size zP6]) r (un1 zs).1 (un1 zs).2 := atext_any h2'
  obtain ⟨B, hB⟩ : ∃ B, [rowP6 w.heap.size zP6] = B := ⟨_, rfl⟩
  rw [hB] at hc
  have HBx := Lib.hid hB
  clear h2 h2' hrd hB
  obtain ⟨s1, hs1⟩ : ∃ s, strOfNums (bodP mxI zs false).1 = s := ⟨_, rfl⟩
  rw [hs1] at hc
  have Hs1 := Lib.hid hs1
  clear hs1
  go_wp2_with fail
  refine hc.mono ?_
  rintro e w3 ⟨rfl, h3⟩
  have hc : Calls Tryz.prog 55 #[.pointer (some ⟨r, 0, none⟩)] w3 fun e w' => e = .returned (.string (strOfNums (bodP mxI (un1 zs).1 (un1 zs).2).1)) ∧ Rd w w' (L1 ++ B) r (un2 zs).1 (un2 zs).2 := atext_any h3
  obtain ⟨s2, hs2⟩ : ∃ s, strOfNums (bodP mxI (un1 zs).1 (un1 zs).2).1 = s := ⟨_, rfl⟩
  rw [hs2] at hc
  have Hs2 := Lib.hid hs2
  clear hs2 h3
  go_wp2_with fail
  refine hc.mono ?_
  rintro e w4 ⟨rfl, h4⟩
  have hli := alist_any h4
  clear hc h4
  go_wp2_with fail
  refine hli.mono ?_
  rintro e w5 ⟨r5, v5, rfl, h5, hp5⟩
  have htk := need_take h5 (Nat.le_trans (inL_len _) (by omega))
  have Hp5 := Lib.hid hp5
  clear hli h5 hp5
  go_wp2_with fail
  refine htk.mono ?_
  rintro e w6 ⟨vn, b6, rfl, h6⟩
  have h6' : Rd w w6 ([rowE 53 3 NeedD.cells vn (tkT needT (un2 zs))] ++ (L1 ++ B)) r (un3 zs).1 (un3 zs).2 := Rd.back (X := [_]) h6 Hp5.out
  obtain ⟨an, cn, rfl, _, _⟩ := rowE_slc h6'.own (List.mem_cons_self ..) (fun x => rfl)
  have hli := alist_any h6'
  clear htk h6 h6' Hp5
  go_wp2_with fail
  refine hli.mono ?_
  rintro e w7 ⟨r7, v7, rfl, h7, hp7⟩
  have htk := text_take h7 (Nat.le_trans (inL_len _) (by omega))
  have Hp7 := Lib.hid hp7
  clear hli h7 hp7
  go_wp2_with fail
  refine htk.mono ?_
  rintro e w8 ⟨vcf, b8, rfl, h8⟩
  have h8' : Rd w w8 ([rowE 9 1 (fun s => [Value.string s]) vcf (tkT textT (un3 zs))] ++ ([rowE 53 3 NeedD.cells (.slice an (tkT needT (un2 zs)).length cn) (tkT needT (un2 zs))] ++ (L1 ++ B))) r (un4 zs).1 (un4 zs).2 := Rd.back (X := [_]) h8 Hp7.out
  obtain ⟨ac, cc, rfl, _, _⟩ := rowE_slc h8'.own (List.mem_cons_self ..) (fun x => rfl)
  have hli := alist_any h8'
  clear htk h8 h8' Hp7
  go_wp2_with fail
  refine hli.mono ?_
  rintro e w9 ⟨r9, v9, rfl, h9, hp9⟩
  have htk := file_take h9 (Nat.le_trans (inL_len _) (by omega))
  have Hp9 := Lib.hid hp9
  clear hli h9 hp9
  go_wp2_with fail
  refine htk.mono ?_
  rintro e w10 ⟨vf, fs, LF, b10, rfl, h10, hfs, hfp, hfl⟩
  have h10' := Rd.back (X := rowE 51 3 FileD.cells vf fs :: LF) h10 Hp9.out
  obtain ⟨af, cf, rfl, _, _⟩ := rowE_slc h10'.own (List.mem_cons_self ..) (fun x => rfl)
  have h10'' : Rd w w10 ((rowE 51 3 FileD.cells (.slice af fs.length cf) fs :: LF) ++ ([rowE 9 1 (fun s => [Value.string s]) (.slice ac (tkT textT (un3 zs)).length cc) (tkT textT (un3 zs))] ++ ([rowE 53 3 NeedD.cells (.slice an (tkT needT (un2 zs)).length cn) (tkT needT (un2 zs))] ++ (L1 ++ B)))) r (un5 zs).1 (un5 zs).2 := h10'
  have hli := alist_any h10''
  have Hfs := Lib.hid hfs
  have Hfp := Lib.hid hfp
  clear htk h10 h10' h10'' Hp9 hfs hfp
  go_wp2_with fail
  refine hli.mono ?_
  rintro e w11 ⟨r11, v11, rfl, h11, hp11⟩
  have htk := text_take h11 (Nat.le_trans (inL_len _) (by omega))
  have Hp11 := Lib.hid hp11
  clear hli h11 hp11
  go_wp2_with fail
  refine htk.mono ?_
  rintro e w12 ⟨vu, b12, rfl, h12⟩
  have h12' := Rd.back (X := [rowE 9 1 (fun s => [Value.string s]) vu (tkT textT (un5 zs))]) h12 Hp11.out
  obtain ⟨au, cu, rfl, _, _⟩ := rowE_slc h12'.own (List.mem_cons_self ..) (fun x => rfl)
  have hown := h12'.own
  rw [← HBx.out] at hown
  have HOwn := Lib.hid (show Own w w12 (([rowE 9 1 (fun s => [Value.string s]) (.slice au (tkT textT (un5 zs)).length cu) (tkT textT (un5 zs))] ++ ((rowE 51 3 FileD.cells (.slice af fs.length cf) fs :: LF) ++ ([rowE 9 1 (fun s => [Value.string s]) (.slice ac (tkT textT (un3 zs)).length cc) (tkT textT (un3 zs))] ++ ([rowE 53 3 NeedD.cells (.slice an (tkT needT (un2 zs)).length cn) (tkT needT (un2 zs))] ++ L1)))) ++ rowP6 w.heap.size zP6 :: []) by simpa using hown)
  obtain ⟨⟨q0, q1, q2, q3, q4, q5⟩, ⟨f0, f1, f2, f3, f4, f5⟩, _⟩ := p6_cells HOwn.out (H := w.heap.size) (a := .string ⟨#[]⟩) (b := .string ⟨#[]⟩) (c := .slice none 0 0) (d := .slice none 0 0) (e := .slice none 0 0) (f := .slice none 0 0) (List.mem_append_right _ (List.mem_cons_self ..))
  clear htk h12 h12' Hp11 hown
  go_wp2_with fail
  rw [← set6]
  have h5 : Own w _ _ := p6_set HOwn.out rfl [.string s1, .string s2, .slice an (tkT needT (un2 zs)).length cn, .slice ac (tkT textT (un3 zs)).length cc, .slice af fs.length cf, .slice au (tkT textT (un5 zs)).length cu] rfl
  obtain ⟨_, _, k5⟩ := p6_cells h5 (List.mem_cons_self ..)
  clear q0 q1 q2 q3 q4 q5 f0 f1 f2 f3 f4 f5 HOwn
  generalize hW : w12.setCells w.heap.size 0 _ = W at h5 k5 ⊢
  clear hW
  refine bodyPost_ret (v := .agg [.string s1, .string s2, .slice an (tkT needT (un2 zs)).length cn, .slice ac (tkT textT (un3 zs)).length cc, .slice af fs.length cf, .slice au (tkT textT (un5 zs)).length cu].toArray) (ret_cellV Tryz.results33 rfl k5 Tryz.underlying26 rfl hir) rfl ?_
  have hsy := Lib.hid (says_mk (zs := zs) Hs1.out Hs2.out rfl rfl Hfs.out rfl)
  obtain ⟨L5, h6, hpk⟩ : ∃ L, Own w W L ∧ PkIn L ⟨s1, s2, tkT needT (un2 zs), tkT textT (un3 zs), fs, tkT textT (un5 zs)⟩ ⟨an, cn, ac, cc, af, cf, au, cu⟩ :=
    ⟨_, h5, pkin_mk (by simp) (by simp) (by simp) (by simp) Hfp.out (fun x hx => by simp [hx])⟩
  clear h5
  have hsy2 := hsy.out
  generalize tkT needT (un2 zs) = N1 at hsy2 hpk ⊢
  generalize tkT textT (un3 zs) = N2 at hsy2 hpk ⊢
  generalize tkT textT (un5 zs) = N3 at hsy2 hpk ⊢
  exact ⟨⟨s1, s2, N1, N2, fs, N3⟩, ⟨an, cn, ac, cc, af, cf, au, cu⟩, L5, rfl, hsy2, hpk, h6⟩
end Go.Proofs.YtihnjhigemhknaaGreatDoor
