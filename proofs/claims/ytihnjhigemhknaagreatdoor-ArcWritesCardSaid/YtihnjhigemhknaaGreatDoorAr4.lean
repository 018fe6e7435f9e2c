/- Whether a package may be: the walk. -/
import Derived.Test.YtihnjhigemhknaaGreatDoorAr3
namespace Go.Proofs.YtihnjhigemhknaaGreatDoor
open Go.RowKit
set_option linter.unusedVariables false
set_option linter.unusedSimpArgs false
set_option maxRecDepth 100000

/-- Where a package's four rows lie. -/
structure PkL where
  an : Option Addr
  cn : Nat
  ac : Option Addr
  cc : Nat
  af : Option Addr
  cf : Nat
  au : Option Addr
  cu : Nat
abbrev pkCells (D : PkgD) (P : PkL) : List Value := [.string D.name, .string D.ver, .slice P.an D.needs.length P.cn, .slice P.ac D.confs.length P.cc, .slice P.af D.files.length P.cf, .slice P.au D.units.length P.cu]
/-- A package that lies in memory. -/
structure PkAt (w : World) (D : PkgD) (P : PkL) : Prop where
  needs : SlcA w P.an 3 (D.needs.map fun x => x.cells)
  confs : SlcA w P.ac 1 (D.confs.map fun x => [Value.string x])
  files : SlcA w P.af 3 (D.files.map fun x => x.cells)
  units : SlcA w P.au 1 (D.units.map fun x => [Value.string x])
  data : ∀ f ∈ D.files, By w (.slice f.a f.data.length f.c) f.data
  cap : D.files.length ≤ P.cf
theorem PkAt.later {w w' : World} {D : PkgD} {P : PkL} (h : PkAt w D P) (hb : Below w.heap.size w w') : PkAt w' D P :=
  ⟨h.needs.later hb, h.confs.later hb, h.files.later hb, h.units.later hb, fun f hf => (h.data f hf).later hb, h.cap⟩
/-- A package no part of which is too great. -/
structure Fits (D : PkgD) : Prop where
  name : D.name.size ≤ 1000000
  ver : D.ver.size ≤ 1000000
  needs : D.needs.length ≤ 1000000
  need : ∀ n ∈ D.needs, n.name.size ≤ 1000000 ∧ n.ver.size ≤ 1000000
  confs : D.confs.length ≤ 1000000
  conf : ∀ s ∈ D.confs, s.size ≤ 1000000
  files : D.files.length ≤ 1000000
  file : ∀ f ∈ D.files, f.path.size ≤ 1000000 ∧ f.data.length ≤ 1000000
  units : D.units.length ≤ 1000000
  unit : ∀ s ∈ D.units, s.size ≤ 1000000
def fewOk (D : PkgD) : Bool := decide (D.needs.length ≤ 8) && decide (D.confs.length ≤ 8) && decide (D.files.length ≤ 12) && decide (D.units.length ≤ 4)
def pkOk (D : PkgD) : Bool := (nameL D.name.data.toList && rightV D.ver.data.toList) && fewOk D && (!(D.needs.any fun n => !needOk n) && !(D.confs.any fun s => !confOk D.name s) && filesOk D.files && !(D.units.any fun s => !unitOk s))
theorem Own.box6 {W0 : Base} {w : World} {L : List Rw} (h : Own W0 w L) (a b c d e f : Value) (T : TypeId) : Own W0 (w.alloc (.cells #[a, b, c, d, e, f] T)) (⟨T, 6, .slice (some ⟨w.heap.size, 0, none⟩) 1 1, 1, [a, b, c, d, e, f]⟩ :: L) :=
  h.made T 6 #[a, b, c, d, e, f] 1 rfl (by unfold maxLen; decide)
def rowPk (g : Nat) (D : PkgD) (P : PkL) : Rw := ⟨26, 6, .slice (some ⟨g, 0, none⟩) 1 1, 1, pkCells D P⟩
theorem pk_cells {W0 : Base} {w : World} {g : Nat} {D : PkgD} {P : PkL} {L : List Rw} (h : Own W0 w L) (hm : rowPk g D P ∈ L) : w.cell? ⟨g, 0, none⟩ = some (.string D.name) ∧ w.cell? ⟨g, 1, none⟩ = some (.string D.ver) ∧ w.cell? ⟨g, 2, none⟩ = some (.slice P.an D.needs.length P.cn) ∧ w.cell? ⟨g, 3, none⟩ = some (.slice P.ac D.confs.length P.cc) ∧ w.cell? ⟨g, 4, none⟩ = some (.slice P.af D.files.length P.cf) ∧ w.cell? ⟨g, 5, none⟩ = some (.slice P.au D.units.length P.cu) := by
  have h1 := h.only hm
  exact ⟨Own.cell (h := h1) 0 (by decide), Own.cell (h := h1) 1 (by decide), Own.cell (h := h1) 2 (by decide), Own.cell (h := h1) 3 (by decide), Own.cell (h := h1) 4 (by decide), Own.cell (h := h1) 5 (by decide)⟩
theorem mx_vmx {w : World} (h : Mx w) : VMx w := h
set_option maxHeartbeats 8000000 in
theorem pkright_any (D : PkgD) (P : PkL) (w : World) (hD : PkAt w D P) (hf : Fits D) (hm : Mx w) :
    Calls Tryz.prog 10 #[.agg #[.string D.name, .string D.ver, .slice P.an D.needs.length P.cn, .slice P.ac D.confs.length P.cc, .slice P.af D.files.length P.cf, .slice P.au D.units.length P.cu]] w fun e w' => e = .returned (.bool (pkOk D)) ∧ Below w.heap.size w w' := by
  have HX := Lib.hid (show Own w _ [rowPk w.heap.size D P] from (Own.start w).box6 (.string D.name) (.string D.ver) (.slice P.an D.needs.length P.cn) (.slice P.ac D.confs.length P.cc) (.slice P.af D.files.length P.cf) (.slice P.au D.units.length P.cu) 26)
  have HD := Lib.hid hD
  have HF := Lib.hid hf
  have Hm := Lib.hid hm
  have HN := fun w1 => name_any D.name w1 (by have := hf.name; unfold maxLen; omega)
  have HV := fun w1 (h : VMx w1) => vright_any D.ver w1 hf.ver h
  have HQ := Lib.hid (show pkOk D = ((nameL D.name.data.toList && rightV D.ver.data.toList) && fewOk D && (!(D.needs.any fun n => !needOk n) && !(D.confs.any fun s => !confOk D.name s) && filesOk D.files && !(D.units.any fun s => !unitOk s))) from rfl)
  have H1 := fun w1 (k1 : PkAt w1 D P) (k2 : Mx w1) => need_has P.an P.cn D.needs (fun n => !needOk n) w1 k1.needs hf.needs (fun x hx w' hb' => wneed_any x w' (hf.need x hx).1 (hf.need x hx).2 (mx_vmx (k2.later hb')))
  have H2 := fun g w1 (k1 : PkAt w1 D P) (k2 : w1.cell? ⟨g, 0, none⟩ = some (.string D.name)) => conf_has g P.ac P.cc D.confs (fun s => !confOk D.name s) w1 k1.confs hf.confs (fun x hx w' hb' => wconf_any D.name x g w' (hf.conf x hx) (by rw [hb'.cell (p := ⟨g, 0, none⟩) (World.block_lt_of_cell? w1 _ k2)]; exact k2))
  have H3 := fun w1 (k1 : PkAt w1 D P) (k2 : Mx w1) => files_any P.af P.cf D.files w1 k1.files hf.files (fun f hx => (hf.file f hx).1) k2 k1.cap
  have H4 := fun w1 (k1 : PkAt w1 D P) => unit_has P.au P.cu D.units (fun s => !unitOk s) w1 k1.units hf.units (fun x hx w' hb' => wunit_any x w')
  clear hD hf hm
  obtain ⟨Q, hQ⟩ : ∃ Q, pkOk D = Q := ⟨_, rfl⟩
  rw [hQ] at HQ ⊢
  clear hQ
  obtain ⟨b1, hb1⟩ : ∃ q, nameL D.name.data.toList = q := ⟨_, rfl⟩
  obtain ⟨b2, hb2⟩ : ∃ q, rightV D.ver.data.toList = q := ⟨_, rfl⟩
  obtain ⟨b3, hb3⟩ : ∃ q, (D.needs.any fun n => !needOk n) = q := ⟨_, rfl⟩
  obtain ⟨b4, hb4⟩ : ∃ q, (D.confs.any fun s => !confOk D.name s) = q := ⟨_, rfl⟩
  obtain ⟨b5, hb5⟩ : ∃ q, filesOk D.files = q := ⟨_, rfl⟩
  obtain ⟨b6, hb6⟩ : ∃ q, (D.units.any fun s => !unitOk s) = q := ⟨_, rfl⟩
  rw [hb1, hb2, hb3, hb4, hb5, hb6] at HQ
  simp only [hb1] at HN
  simp only [hb2] at HV
  simp only [hb3] at H1
  simp only [hb4] at H2
  simp only [hb5] at H3
  simp only [hb6] at H4
  clear hb1 hb2 hb3 hb4 hb5 hb6
  have HFew := Lib.hid (show fewOk D = (decide (D.needs.length ≤ 8) && decide (D.confs.length ≤ 8) && decide (D.files.length ≤ 12) && decide (D.units.length ≤ 4)) from rfl)
  generalize fewOk D = fw at *
  go_enter Tryz.func10, Tryz.ntmps10
  go_wp2_with fail
  refine (HN _).mono ?_
  rintro e w2 ⟨rfl, hb2⟩
  have HX2 := Lib.hid (HX.out.later hb2)
  have HB2 := Lib.hid HX2.out.below
  obtain ⟨p0, p1, p2, p3, p4, p5⟩ := pk_cells HX2.out (g := w.heap.size) (D := D) (P := P) (by simp)
  clear hb2 HN HX
  cases b1 with
  | false =>
    obtain rfl : Q = false := HQ.out
    go_wp2_with fail
    go_ret
    exact ⟨rfl, HB2.out⟩
  | true =>
    go_wp2_with fail
    refine (HV _ (mx_vmx (Hm.out.later HB2.out))).mono ?_
    rintro e w3 ⟨rfl, hb3⟩
    have HX3 := Lib.hid (HX2.out.later hb3)
    have HB3 := Lib.hid HX3.out.below
    clear p0 p1 p2 p3 p4 p5
    obtain ⟨p0, p1, p2, p3, p4, p5⟩ := pk_cells HX3.out (g := w.heap.size) (D := D) (P := P) (by simp)
    clear hb3 HV HX2 HB2
    cases b2 with
    | false =>
      obtain rfl : Q = false := HQ.out
      go_wp2_with fail
      go_ret
      exact ⟨rfl, HB3.out⟩
    | true =>
      by_cases n0 : D.needs.length ≤ 8
      · have i0 : ¬ (8 : Int) < (D.needs.length : Int) := by omega
        by_cases n1 : D.confs.length ≤ 8
        · have i1 : ¬ (8 : Int) < (D.confs.length : Int) := by omega
          by_cases n2 : D.files.length ≤ 12
          · have i2 : ¬ (12 : Int) < (D.files.length : Int) := by omega
            by_cases n3 : D.units.length ≤ 4
            · have i3 : ¬ (4 : Int) < (D.units.length : Int) := by omega
              obtain rfl : fw = true := by rw [HFew.out, decide_eq_true n0, decide_eq_true n1, decide_eq_true n2, decide_eq_true n3]; rfl
              have HQ2 := Lib.hid (show Q = (!b3 && !b4 && b5 && !b6) by rw [HQ.out]; rfl)
              clear HQ HFew n0 n1 n2 n3
              have hd := HD.out.later HB3.out
              have c1 := H1 w3 hd (Hm.out.later HB3.out)
              go_wp2_with fail
              refine c1.mono ?_
              rintro e w4 ⟨rfl, hb4⟩
              clear c1 hd p0 p1 p2 p3 p4 p5 H1 i0 i1 i2 i3
              have HX4 := Lib.hid (HX3.out.later hb4)
              have HB4 := Lib.hid HX4.out.below
              obtain ⟨p0, p1, p2, p3, p4, p5⟩ := pk_cells HX4.out (g := w.heap.size) (D := D) (P := P) (by simp)
              clear hb4 HX3 HB3
              cases b3 with
              | true =>
                obtain rfl : Q = false := HQ2.out
                go_wp2_with fail
                go_ret
                exact ⟨rfl, HB4.out⟩
              | false =>
                have hd := HD.out.later HB4.out
                have c2 := H2 w.heap.size w4 hd p0
                go_wp2_with fail
                refine c2.mono ?_
                rintro e w5 ⟨rfl, hb5⟩
                clear c2 hd p0 p1 p2 p3 p4 p5 H2
                have HX5 := Lib.hid (HX4.out.later hb5)
                have HB5 := Lib.hid HX5.out.below
                obtain ⟨p0, p1, p2, p3, p4, p5⟩ := pk_cells HX5.out (g := w.heap.size) (D := D) (P := P) (by simp)
                clear hb5 HX4 HB4
                cases b4 with
                | true =>
                  obtain rfl : Q = false := HQ2.out
                  go_wp2_with fail
                  go_ret
                  exact ⟨rfl, HB5.out⟩
                | false =>
                  have hd := HD.out.later HB5.out
                  have c3 := H3 w5 hd (Hm.out.later HB5.out)
                  go_wp2_with fail
                  refine c3.mono ?_
                  rintro e w6 ⟨rfl, hb6⟩
                  clear c3 hd p0 p1 p2 p3 p4 p5 H3
                  have HX6 := Lib.hid (HX5.out.later hb6)
                  have HB6 := Lib.hid HX6.out.below
                  obtain ⟨p0, p1, p2, p3, p4, p5⟩ := pk_cells HX6.out (g := w.heap.size) (D := D) (P := P) (by simp)
                  clear hb6 HX5 HB5
                  cases b5 with
                  | false =>
                    obtain rfl : Q = false := HQ2.out
                    go_wp2_with fail
                    go_ret
                    exact ⟨rfl, HB6.out⟩
                  | true =>
                    have hd := HD.out.later HB6.out
                    have c4 := H4 w6 hd
                    obtain rfl : Q = !b6 := HQ2.out
                    go_wp2_with fail
                    refine c4.mono ?_
                    rintro e w7 ⟨rfl, hb7⟩
                    have HB7 := Lib.hid (HB6.out.trans (hb7.mono HB6.out.size))
                    clear c4 hd p0 p1 p2 p3 p4 p5 H4 hb7
                    go_wp2_with fail
                    go_ret
                    exact ⟨rfl, HB7.out⟩
            · have i3 : (4 : Int) < (D.units.length : Int) := by omega
              obtain rfl : Q = false := by rw [HQ.out, HFew.out, decide_eq_false n3]; simp
              clear HQ HFew
              go_wp2_with fail
              go_ret
              exact ⟨rfl, HB3.out⟩
          · have i2 : (12 : Int) < (D.files.length : Int) := by omega
            obtain rfl : Q = false := by rw [HQ.out, HFew.out, decide_eq_false n2]; simp
            clear HQ HFew
            go_wp2_with fail
            go_ret
            exact ⟨rfl, HB3.out⟩
        · have i1 : (8 : Int) < (D.confs.length : Int) := by omega
          obtain rfl : Q = false := by rw [HQ.out, HFew.out, decide_eq_false n1]; simp
          clear HQ HFew
          go_wp2_with fail
          go_ret
          exact ⟨rfl, HB3.out⟩
      · have i0 : (8 : Int) < (D.needs.length : Int) := by omega
        obtain rfl : Q = false := by rw [HQ.out, HFew.out, decide_eq_false n0]; simp
        clear HQ HFew
        go_wp2_with fail
        go_ret
        exact ⟨rfl, HB3.out⟩
end Go.Proofs.YtihnjhigemhknaaGreatDoor
