/- Whether files may be, one behind the other: the walk. -/
import Derived.Test.YtihnjhigemhknaaGreatDoorAr2
import Derived.Deep.RegionHeld3
import Derived.Laws.Cover1
namespace Go.Proofs.YtihnjhigemhknaaGreatDoor
open Go.RowKit
set_option linter.unusedVariables false
set_option linter.unusedSimpArgs false
set_option maxRecDepth 100000

def keptS : ByteArray := ⟨#[47, 118, 97, 114]⟩
def leS (a b : ByteArray) : Bool := Op.bytesLess a.toList b.toList || a.toList == b.toList
def fileOk (f : FileD) : Bool := decide (namesL f.path.data.toList ≠ []) && !decide (f.path.data.toList = keptS.data.toList) && !withinL f.path.data.toList keptS.data.toList && decide (f.data.length ≤ 512)
def lateBad (fs : List FileD) (k : Nat) (f : FileD) : Bool := match k with
  | 0 => false
  | j + 1 => match fs[j]? with
    | none => false
    | some g => leS f.path g.path
theorem lateBad_succ (fs : List FileD) (j : Nat) (f : FileD) (h : j < fs.length) : lateBad fs (j + 1) f = leS f.path fs[j].path := by
  show (match fs[j]? with | none => false | some g => leS f.path g.path) = _
  rw [List.getElem?_eq_getElem h]
def fileAt (fs : List FileD) (k : Nat) : Bool := match fs[k]? with
  | none => true
  | some f => fileOk f && !lateBad fs k f && !(fs.take k).any fun x => withinL f.path.data.toList x.path.data.toList
def filesOk (fs : List FileD) : Bool := (List.range fs.length).all (fileAt fs)
theorem fileAt_eq (fs : List FileD) (k : Nat) (h : k < fs.length) : fileAt fs k = (fileOk fs[k] && !lateBad fs k fs[k] && !(fs.take k).any fun x => withinL fs[k].path.data.toList x.path.data.toList) := by
  unfold fileAt; rw [List.getElem?_eq_getElem h]
theorem filesOk_no (fs : List FileD) (k : Nat) (h : k < fs.length) (hf : fileAt fs k = false) : filesOk fs = false :=
  List.all_eq_false.2 ⟨k, List.mem_range.2 h, by rw [hf]; decide⟩
theorem range_all_succ (f : Nat → Bool) (k : Nat) : (List.range (k + 1)).all f = ((List.range k).all f && f k) := by
  rw [List.range_succ, List.all_append, List.all_cons, List.all_nil, Bool.and_true]
def FilesRel (fs : List FileD) (i : Value) (w wr : World) : Prop := ∃ k : Nat, i = .int .i64 k ∧ k ≤ fs.length ∧ (List.range k).all (fileAt fs) = true ∧ Below w.heap.size w wr
theorem SlcA.take {w : World} {a : Option Addr} {size : Nat} {xs : List (List Value)} (h : SlcA w a size xs) (k : Nat) : SlcA w a size (xs.take k) := fun i hi => by
  obtain ⟨g, o, e, hr⟩ := h i (by rw [List.length_take] at hi; omega)
  exact ⟨g, o, e, by rw [List.getElem_take]; exact hr⟩
set_option maxHeartbeats 8000000 in
theorem files_any (a : Option Addr) (c : Nat) (fs : List FileD) (w : World) (hS : SlcA w a 3 (fs.map fun x => x.cells)) (hn : fs.length ≤ 1000000) (hp : ∀ f ∈ fs, f.path.size ≤ 1000000) (hm : Mx w) (hcap : fs.length ≤ c) :
    Calls Tryz.prog 27 #[.slice a fs.length c] w fun e w' => e = .returned (.bool (filesOk fs)) ∧ Below w.heap.size w w' := by
  have Hst := Lib.hid (show FilesRel fs (.int .i64 0) w w from ⟨0, rfl, Nat.zero_le _, rfl, Below.refl _ _⟩)
  have HS := Lib.hid hS
  have Hm := Lib.hid hm
  have Hp := Lib.hid hp
  clear hS hm hp
  go_enter Tryz.func27, Tryz.ntmps27
  go_wp2_with fail
  go_loopw [8] (fun i wr => FilesRel fs i w wr) (fun i _ => fs.length - (intOf i).toNat)
  case atStart => exact Hst.out
  case round =>
    obtain ⟨k, rfl, hk, hall, hb⟩ := hrel
    clear Hst
    have Hall := Lib.hid hall
    have HB := Lib.hid hb
    clear hall hb
    by_cases hlt : k < fs.length
    · obtain ⟨g, o, rfl, hr⟩ := HS.out.later HB.out k (by rw [List.length_map]; exact hlt)
      rw [List.getElem_map] at hr
      have r0 := hr 0 _ rfl
      have r1 := hr 1 _ rfl
      have r2 := hr 2 _ rfl
      rw [Nat.add_zero] at r0
      have hps := Hp.out _ (List.getElem_mem hlt)
      have HF := Lib.hid (fileAt_eq fs k hlt)
      have HNo := Lib.hid (filesOk_no fs k hlt)
      have HOK := Lib.hid (show fileOk fs[k] = (decide (namesL fs[k].path.data.toList ≠ []) && !decide (fs[k].path.data.toList = keptS.data.toList) && !withinL fs[k].path.data.toList keptS.data.toList && decide (fs[k].data.length ≤ 512)) from rfl)
      have hE : (fs[k].path.toList == [47, 118, 97, 114]) = decide (fs[k].path.data.toList = keptS.data.toList) := by rw [← eqS_lists (a := fs[k].path) (b := keptS), show keptS.toList = [47, 118, 97, 114] by rw [Lib.toList_data]; rfl]
      have HR := fun w1 (h : Mx w1) => right_any fs[k].path w1 (by unfold maxLen; omega) h
      have HW := fun w1 (h : Mx w1) => within_any fs[k].path keptS w1 (by unfold maxLen; omega) (by decide) h
      have HX := Lib.hid ((Own.start wr).box3 (.string fs[k].path) (.bool fs[k].config) (.slice fs[k].a fs[k].data.length fs[k].c) 51)
      have Hm1 := Lib.hid ((Hm.out.later HB.out).later HX.out.below)
      unfold keptS at HW
      clear hr
      obtain ⟨b1, hb1⟩ : ∃ q, decide (namesL fs[k].path.data.toList ≠ []) = q := ⟨_, rfl⟩
      obtain ⟨b2, hb2⟩ : ∃ q, decide (fs[k].path.data.toList = keptS.data.toList) = q := ⟨_, rfl⟩
      obtain ⟨b3, hb3⟩ : ∃ q, withinL fs[k].path.data.toList keptS.data.toList = q := ⟨_, rfl⟩
      rw [hb1, hb2, hb3] at HOK
      simp only [hb1] at HR
      rw [hb2] at hE
      unfold keptS at hb3
      simp only [hb3] at HW
      have Hn2 := Lib.hid hn
      clear hb1 hb2 hb3
      obtain ⟨f, hf⟩ : ∃ f, fs[k] = f := ⟨_, rfl⟩
      rw [hf] at r0 r1 r2 hps HF HOK hE HR HW HX Hm1
      have Hf := Lib.hid hf
      clear hf
      go_wp2_with fail
      refine (HR _ Hm1.out).mono ?_
      rintro e w2 ⟨rfl, hb2⟩
      have HX2 := Lib.hid (HX.out.later hb2)
      have HB2 := Lib.hid (HB.out.trans ((HX.out.below.trans (hb2.mono HX.out.below.size)).mono HB.out.size))
      have Hm2 := Lib.hid (Hm1.out.later hb2)
      have q0 : w2.cell? ⟨wr.heap.size, 0, none⟩ = some (.string f.path) := Own.cell (h := HX2.out) 0 (by decide)
      clear hb2 HR HX Hm1
      cases b1 with
      | false =>
        have HZ := Lib.hid (HNo.out (by rw [HF.out, HOK.out]; rfl))
        go_wp2_with fail
        go_ret
        exact ⟨by rw [HZ.out]; rfl, HB2.out⟩
      | true =>
        cases b2 with
        | true =>
          have HZ := Lib.hid (HNo.out (by rw [HF.out, HOK.out]; rfl))
          go_wp2_with fail
          go_ret
          exact ⟨by rw [HZ.out]; rfl, HB2.out⟩
        | false =>
          go_wp2_with fail
          refine (HW _ Hm2.out).mono ?_
          rintro e w3 ⟨rfl, hb3⟩
          have HX3 := Lib.hid (HX2.out.later hb3)
          have HB3 := Lib.hid (HB2.out.trans (hb3.mono HB2.out.size))
          have Hm3 := Lib.hid (Hm2.out.later hb3)
          have p0 : w3.cell? ⟨wr.heap.size, 0, none⟩ = some (.string f.path) := Own.cell (h := HX3.out) 0 (by decide)
          have p2 : w3.cell? ⟨wr.heap.size, 2, none⟩ = some (.slice f.a f.data.length f.c) := Own.cell (h := HX3.out) 2 (by decide)
          clear hb3 HW q0 hE
          cases b3 with
          | true =>
            have HZ := Lib.hid (HNo.out (by rw [HF.out, HOK.out]; rfl))
            go_wp2_with fail
            go_ret
            exact ⟨by rw [HZ.out]; rfl, HB3.out⟩
          | false =>
            by_cases h5 : f.data.length ≤ 512
            · have HOK2 := Lib.hid (show fileOk f = true by rw [HOK.out, decide_eq_true h5]; rfl)
              have h6 : ¬ (512 : Int) < (f.data.length : Int) := by omega
              clear HOK
              have hcon := file_has (wr.heap.size) (some ⟨g, o, none⟩) c (fs.take k) (fun x => withinL f.path.data.toList x.path.data.toList) w3.drew (by
                rw [List.map_take]
                exact (HS.out.later HB3.out.drew).take k) (by rw [List.length_take]; have := Hn2.out; omega) (fun x hx w' hb' => by
                have hx2 := List.mem_of_mem_take hx
                exact within_box f.path x wr.heap.size w' hps (Hp.out x hx2) ((Hm3.out.later (Below.refl _ w3).drew).later hb') (by rw [hb'.cell (p := ⟨wr.heap.size, 0, none⟩) (World.block_lt_of_cell? w3 _ p0)]; exact p0))
              rw [List.length_take, Nat.min_eq_left (Nat.le_of_lt hlt)] at hcon
              obtain ⟨qa, hqa⟩ : ∃ q, ((fs.take k).any fun x => withinL f.path.data.toList x.path.data.toList) = q := ⟨_, rfl⟩
              rw [hqa] at hcon HF
              clear hqa
              have hR := HS.out.later HB3.out
              cases k with
              | zero =>
                have HF2 := Lib.hid (show fileAt fs 0 = !qa by rw [HF.out, HOK2.out]; show (true && !lateBad fs 0 f && !qa) = _; unfold lateBad; rfl)
                clear hR HF HOK2
                go_wp2_with fail
                go_region
                go_wp2_with fail
                refine hcon.mono ?_
                rintro e w4 ⟨rfl, hb4⟩
                have HB4 := Lib.hid (HB3.out.drew.trans (hb4.mono HB3.out.drew.size))
                clear hb4 hcon
                cases qa with
                | true =>
                  have HZ := Lib.hid (HNo.out (by rw [HF2.out]; rfl))
                  go_wp2_with fail
                  go_ret
                  exact ⟨by rw [HZ.out]; rfl, HB4.out⟩
                | false =>
                  have HR2 := Lib.hid (show ∀ i, i = .int .i64 ((0 + 1 : Nat) : Int) → FilesRel fs i w w4 from fun i hi => ⟨0 + 1, hi, hlt, by rw [range_all_succ, Hall.out, HF2.out]; rfl, HB4.out⟩)
                  have hn3 := Hn2.out
                  go_wp2_with fail
                  go_roundw
                  case rel => exact HR2.out _ (by go_num)
                  case measure => simp [intOf]; omega
              | succ j =>
                obtain ⟨g', o', e', hr'⟩ := hR j (by rw [List.length_map]; omega)
                injection e' with e'
                injection e' with e1 e2
                subst e1 e2
                rw [List.getElem_map] at hr'
                have t0 := hr' 0 _ rfl
                rw [Nat.add_zero] at t0
                obtain ⟨fj, hfj⟩ : ∃ q, fs[j].path = q := ⟨_, rfl⟩
                have HF2 := Lib.hid (show fileAt fs (j + 1) = (!leS f.path fj && !qa) by
                  rw [HF.out, HOK2.out]
                  rw [lateBad_succ fs j f (by omega), hfj]; rfl)
                rw [hfj] at t0
                have hsub : ((j + 1 : Nat) : Int) - 1 = (j : Int) := by omega
                have hjl : (j : Int) < (fs.length : Int) := by omega
                have hj0 : (0 : Int) ≤ (j : Int) := by omega
                have hjm : (j : Int) ≤ 1000000 := by omega
                clear hR HF HOK2 hfj hr'
                obtain ⟨lq, hlq⟩ : ∃ q, leS f.path fj = q := ⟨_, rfl⟩
                rw [hlq] at HF2
                unfold leS at hlq
                go_wp2_with fail
                go_region
                cases lq with
                | true =>
                  have HZ := Lib.hid (HNo.out (by rw [HF2.out]; rfl))
                  go_wp2_with fail
                  go_ret
                  exact ⟨by rw [HZ.out]; rfl, HB3.out.drew⟩
                | false =>
                  go_wp2_with fail
                  refine hcon.mono ?_
                  rintro e w4 ⟨rfl, hb4⟩
                  have HB4 := Lib.hid (HB3.out.drew.trans (hb4.mono HB3.out.drew.size))
                  clear hb4 hcon
                  cases qa with
                  | true =>
                    have HZ := Lib.hid (HNo.out (by rw [HF2.out]; rfl))
                    go_wp2_with fail
                    go_ret
                    exact ⟨by rw [HZ.out]; rfl, HB4.out⟩
                  | false =>
                    have HR2 := Lib.hid (show ∀ i, i = .int .i64 ((j + 1 + 1 : Nat) : Int) → FilesRel fs i w w4 from fun i hi => ⟨j + 1 + 1, hi, hlt, by rw [range_all_succ, Hall.out, HF2.out]; rfl, HB4.out⟩)
                    have hn3 := Hn2.out
                    go_wp2_with fail
                    go_roundw
                    case rel => exact HR2.out _ (by go_num)
                    case measure => simp [intOf]; omega
            · have h6 : (512 : Int) < (f.data.length : Int) := by omega
              have HZ := Lib.hid (HNo.out (by rw [HF.out, HOK.out, decide_eq_false h5]; rfl))
              go_wp2_with fail
              go_ret
              exact ⟨by rw [HZ.out]; rfl, HB3.out⟩
    · obtain rfl : k = fs.length := by omega
      have HZ := Lib.hid (show filesOk fs = true from Hall.out)
      go_wp2_with fail
      go_ret
      exact ⟨by rw [HZ.out]; rfl, HB.out⟩
end Go.Proofs.YtihnjhigemhknaaGreatDoor
