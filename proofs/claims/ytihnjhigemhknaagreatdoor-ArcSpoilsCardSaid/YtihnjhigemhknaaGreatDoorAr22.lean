/- Small: what it asks of a package. -/
import Derived.Test.YtihnjhigemhknaaGreatDoorAr21
namespace Go.Proofs.YtihnjhigemhknaaGreatDoor
open Go.RowKit
set_option linter.unusedVariables false
set_option linter.unusedSimpArgs false
set_option maxRecDepth 100000

/-- A package that is small. -/
structure SmallD (D : PkgD) : Prop where
  name : D.name.size ≤ 60
  ver : D.ver.size ≤ 60
  needs : D.needs.length ≤ 20
  need : ∀ n ∈ D.needs, n.name.size ≤ 60 ∧ n.ver.size ≤ 60
  confs : D.confs.length ≤ 20
  conf : ∀ s ∈ D.confs, s.size ≤ 60
  files : D.files.length ≤ 20
  file : ∀ f ∈ D.files, f.path.size ≤ 60 ∧ f.data.length ≤ 600
  units : D.units.length ≤ 20
  unit : ∀ s ∈ D.units, s.size ≤ 400
theorem SmallD.fits {D : PkgD} (h : SmallD D) : Fits D :=
  ⟨by have := h.name; omega, by have := h.ver; omega, by have := h.needs; omega, fun n hn => by have := h.need n hn; omega, by have := h.confs; omega, fun n hn => by have := h.conf n hn; omega, by have := h.files; omega, fun n hn => by have := h.file n hn; omega, by have := h.units; omega, fun n hn => by have := h.unit n hn; omega⟩
/-- A package as it may come in: no length is greater than what a machine has. -/
structure RoomD (D : PkgD) : Prop where
  name : D.name.size ≤ maxLen
  ver : D.ver.size ≤ maxLen
  needs : D.needs.length ≤ maxLen
  need : ∀ n ∈ D.needs, n.name.size ≤ maxLen ∧ n.ver.size ≤ maxLen
  confs : D.confs.length ≤ maxLen
  conf : ∀ s ∈ D.confs, s.size ≤ maxLen
  files : D.files.length ≤ maxLen
  file : ∀ f ∈ D.files, f.path.size ≤ maxLen ∧ f.data.length ≤ maxLen
  units : D.units.length ≤ maxLen
  unit : ∀ s ∈ D.units, s.size ≤ maxLen
theorem small_flat {D : PkgD} (h : SmallD D) : (D.needs.map packN).flatten.length ≤ 16777216 ∧ (D.confs.map textL).flatten.length ≤ 16777216 ∧ (D.files.map packF).flatten.length ≤ 16777216 ∧ (D.units.map textL).flatten.length ≤ 16777216 := by
  have a := flat_le packN 1000 D.needs (fun n hn => by have := h.need n hn; unfold packN; rw [List.length_append, List.length_append, sizedL_length, sizedL_length, sb_length, sb_length]; show _ + (4 + _) ≤ _; omega)
  have b := flat_le textL 1000 D.confs (fun n hn => by have := h.conf n hn; rw [textL_len]; omega)
  have c := flat_le packF 1000 D.files (fun n hn => by have := h.file n hn; unfold packF; rw [List.length_append, List.length_append, sizedL_length, sizedL_length, sb_length]; show _ + (4 + _) ≤ _; omega)
  have d := flat_le textL 1000 D.units (fun n hn => by have := h.unit n hn; rw [textL_len]; omega)
  have h1 := h.needs
  have h2 := h.confs
  have h3 := h.files
  have h4 := h.units
  refine ⟨?_, ?_, ?_, ?_⟩ <;> omega
theorem below_mem {α : Type} {xs : List α} {p : α → Prop} {k : Nat} (hk : k < xs.length) (h : ∀ i (hi : i < k) (h2 : i < xs.length), p xs[i]) (hx : p xs[k]) : ∀ i (hi : i < k + 1) (h2 : i < xs.length), p xs[i] := fun i hi h2 => by
  rcases Nat.lt_succ_iff_lt_or_eq.1 hi with h3 | h3
  · exact h i h3 h2
  · subst h3; exact hx
theorem all_mem {α : Type} {xs : List α} {p : α → Prop} (h : ∀ i (hi : i < xs.length) (h2 : i < xs.length), p xs[i]) : ∀ x ∈ xs, p x := fun x hx => by
  obtain ⟨i, hi, rfl⟩ := List.getElem_of_mem hx
  exact h i hi hi
set_option maxHeartbeats 16000000 in
theorem small_any (D : PkgD) (P : PkL) (w : World) (hD : PkAt w D P) (hr : RoomD D) :
    Calls Tryz.prog 7 #[.agg #[.string D.name, .string D.ver, .slice P.an D.needs.length P.cn, .slice P.ac D.confs.length P.cc, .slice P.af D.files.length P.cf, .slice P.au D.units.length P.cu]] w fun e w' => (e = .returned (.int .i64 0) ∨ e = .returned (.int .i64 1) ∧ SmallD D) ∧ Below w.heap.size w w' := by
  have HX := Lib.hid (show Own w _ [rowPk w.heap.size D P] from (Own.start w).box6 (.string D.name) (.string D.ver) (.slice P.an D.needs.length P.cn) (.slice P.ac D.confs.length P.cc) (.slice P.af D.files.length P.cf) (.slice P.au D.units.length P.cu) 26)
  have HD := Lib.hid hD
  have HR := Lib.hid hr
  have r0 := hr.name
  have r1 := hr.ver
  have r2 := hr.needs
  have r3 := hr.confs
  have r4 := hr.files
  have r5 := hr.units
  unfold maxLen at r0 r1 r2 r3 r4 r5
  clear hD hr
  by_cases hall : D.name.size ≤ 60 ∧ D.ver.size ≤ 60 ∧ D.needs.length ≤ 20 ∧ D.confs.length ≤ 20 ∧ D.files.length ≤ 20 ∧ D.units.length ≤ 20
  · have HA := Lib.hid hall
    obtain ⟨a0, a1, a2, a3, a4, a5⟩ := hall
    have i0 : ¬ (60 : Int) < (D.name.size : Int) := by omega
    have i1 : ¬ (60 : Int) < (D.ver.size : Int) := by omega
    have i2 : ¬ (20 : Int) < (D.needs.length : Int) := by omega
    have i3 : ¬ (20 : Int) < (D.confs.length : Int) := by omega
    have i4 : ¬ (20 : Int) < (D.files.length : Int) := by omega
    have i5 : ¬ (20 : Int) < (D.units.length : Int) := by omega
    clear a0 a1 r0 r1
    go_enter Tryz.func7, Tryz.ntmps7
    go_wp2_with fail
    clear i0 i1 i2 i3 i4 i5
    go_loopw [48] (fun iv wr => ∃ k : Nat, iv = .int .i64 k ∧ k ≤ D.needs.length ∧ Own w wr [rowPk w.heap.size D P] ∧ Hid (∀ i (hi : i < k) (h2 : i < D.needs.length), D.needs[i].name.size ≤ 60 ∧ D.needs[i].ver.size ≤ 60)) (fun iv _ => D.needs.length - (intOf iv).toNat)
    case atStart => exact ⟨0, rfl, Nat.zero_le _, HX.out, fun i hi => absurd hi (Nat.not_lt_zero _)⟩
    case round =>
      clear HX
      obtain ⟨k, rfl, hk, hO, HG⟩ := hrel
      have HO := Lib.hid hO
      clear hO
      by_cases hlt : k < D.needs.length
      · obtain ⟨g, o, hg, hr⟩ := HD.out.needs.later HO.out.below k (by rw [List.length_map]; exact hlt)
        rw [List.getElem_map] at hr
        have q0 := hr 0 _ rfl
        have q1 := hr 1 _ rfl
        have q2 := hr 2 _ rfl
        rw [Nat.add_zero] at q0
        have hm := HR.out.need _ (List.getElem_mem hlt)
        unfold maxLen at hm
        have HG2 := Lib.hid (fun h => below_mem (p := fun n : NeedD => n.name.size ≤ 60 ∧ n.ver.size ≤ 60) hlt HG.out h)
        clear hr HG
        generalize D.needs[k] = n at *
        obtain ⟨hm1, hm2⟩ := hm
        rw [hg]
        by_cases c0 : n.name.size ≤ 60
        · have j0 : ¬ (60 : Int) < (n.name.size : Int) := by omega
          by_cases c1 : n.ver.size ≤ 60
          · have j1 : ¬ (60 : Int) < (n.ver.size : Int) := by omega
            have HG3 := Lib.hid (HG2.out ⟨c0, c1⟩)
            clear HG2 c0 c1
            go_wp2_with fail
            go_roundw
            case rel => exact ⟨k + 1, by go_num, hlt, HO.out.alloc _, HG3.out⟩
            case measure => simp [intOf]; omega
          · have j1 : (60 : Int) < (n.ver.size : Int) := by omega
            clear HG2 c0 c1
            go_wp2_with fail
            go_ret
            exact ⟨.inl rfl, (HO.out.alloc _).below⟩
        · have j0 : (60 : Int) < (n.name.size : Int) := by omega
          clear HG2 c0
          go_wp2_with fail
          go_ret
          exact ⟨.inl rfl, (HO.out.alloc _).below⟩
      · obtain rfl : k = D.needs.length := by omega
        have HN := Lib.hid (all_mem (p := fun n : NeedD => n.name.size ≤ 60 ∧ n.ver.size ≤ 60) HG.out)
        clear HG
        obtain ⟨p0, p1, p2, p3, p4, p5⟩ := pk_cells HO.out (g := w.heap.size) (D := D) (P := P) (List.mem_cons_self ..)
        clear p0 p1 p2 p4 p5
        go_wp2_with fail
        clear p3
        go_loopw [66] (fun iv wq => ∃ k : Nat, iv = .int .i64 k ∧ k ≤ D.confs.length ∧ Own w wq [rowPk w.heap.size D P] ∧ Hid (∀ i (hi : i < k) (h2 : i < D.confs.length), D.confs[i].size ≤ 60)) (fun iv _ => D.confs.length - (intOf iv).toNat)
        case atStart => exact ⟨0, rfl, Nat.zero_le _, HO.out, fun i hi => absurd hi (Nat.not_lt_zero _)⟩
        case round =>
          clear HO
          obtain ⟨k, rfl, hk, hO, HG⟩ := hrel
          have HO := Lib.hid hO
          clear hO
          by_cases hlt : k < D.confs.length
          · obtain ⟨g, o, hg, hr⟩ := HD.out.confs.later HO.out.below k (by rw [List.length_map]; exact hlt)
            rw [List.getElem_map] at hr
            rw [Nat.mul_one] at hr
            have q0 := hr 0 _ rfl
            rw [Nat.add_zero] at q0
            have hm1 := HR.out.conf _ (List.getElem_mem hlt)
            unfold maxLen at hm1
            have HG2 := Lib.hid (fun h => below_mem (p := fun n : ByteArray => n.size ≤ 60) hlt HG.out h)
            clear hr HG
            generalize D.confs[k] = n at *
            rw [hg]
            by_cases c0 : n.size ≤ 60
            · have j0 : ¬ (60 : Int) < (n.size : Int) := by omega
              have HG3 := Lib.hid (HG2.out c0)
              clear HG2 c0
              go_wp2_with fail
              go_roundw
              case rel => exact ⟨k + 1, by go_num, hlt, HO.out, HG3.out⟩
              case measure => simp [intOf]; omega
            · have j0 : (60 : Int) < (n.size : Int) := by omega
              clear HG2 c0
              go_wp2_with fail
              go_ret
              exact ⟨.inl rfl, HO.out.below⟩
          · obtain rfl : k = D.confs.length := by omega
            have HC := Lib.hid (all_mem (p := fun n : ByteArray => n.size ≤ 60) HG.out)
            clear HG
            obtain ⟨p0, p1, p2, p3, p4, p5⟩ := pk_cells HO.out (g := w.heap.size) (D := D) (P := P) (List.mem_cons_self ..)
            clear p0 p1 p2 p3 p5
            go_wp2_with fail
            clear p4
            go_loopw [77] (fun iv wq => ∃ k : Nat, iv = .int .i64 k ∧ k ≤ D.files.length ∧ Own w wq [rowPk w.heap.size D P] ∧ Hid (∀ i (hi : i < k) (h2 : i < D.files.length), D.files[i].path.size ≤ 60 ∧ D.files[i].data.length ≤ 600)) (fun iv _ => D.files.length - (intOf iv).toNat)
            case atStart => exact ⟨0, rfl, Nat.zero_le _, HO.out, fun i hi => absurd hi (Nat.not_lt_zero _)⟩
            case round =>
              clear HO
              obtain ⟨k, rfl, hk, hO, HG⟩ := hrel
              have HO := Lib.hid hO
              clear hO
              by_cases hlt : k < D.files.length
              · obtain ⟨g, o, hg, hr⟩ := HD.out.files.later HO.out.below k (by rw [List.length_map]; exact hlt)
                rw [List.getElem_map] at hr
                have q0 := hr 0 _ rfl
                have q1 := hr 1 _ rfl
                have q2 := hr 2 _ rfl
                rw [Nat.add_zero] at q0
                have hm := HR.out.file _ (List.getElem_mem hlt)
                unfold maxLen at hm
                have HG2 := Lib.hid (fun h => below_mem (p := fun n : FileD => n.path.size ≤ 60 ∧ n.data.length ≤ 600) hlt HG.out h)
                clear hr HG
                generalize D.files[k] = n at *
                obtain ⟨hm1, hm2⟩ := hm
                rw [hg]
                by_cases c0 : n.path.size ≤ 60
                · have j0 : ¬ (60 : Int) < (n.path.size : Int) := by omega
                  by_cases c1 : n.data.length ≤ 600
                  · have j1 : ¬ (600 : Int) < (n.data.length : Int) := by omega
                    have HG3 := Lib.hid (HG2.out ⟨c0, c1⟩)
                    clear HG2 c0 c1
                    go_wp2_with fail
                    go_roundw
                    case rel => exact ⟨k + 1, by go_num, hlt, HO.out.alloc _, HG3.out⟩
                    case measure => simp [intOf]; omega
                  · have j1 : (600 : Int) < (n.data.length : Int) := by omega
                    clear HG2 c0 c1
                    go_wp2_with fail
                    go_ret
                    exact ⟨.inl rfl, (HO.out.alloc _).below⟩
                · have j0 : (60 : Int) < (n.path.size : Int) := by omega
                  clear HG2 c0
                  go_wp2_with fail
                  go_ret
                  exact ⟨.inl rfl, (HO.out.alloc _).below⟩
              · obtain rfl : k = D.files.length := by omega
                have HFl := Lib.hid (all_mem (p := fun n : FileD => n.path.size ≤ 60 ∧ n.data.length ≤ 600) HG.out)
                clear HG
                obtain ⟨p0, p1, p2, p3, p4, p5⟩ := pk_cells HO.out (g := w.heap.size) (D := D) (P := P) (List.mem_cons_self ..)
                clear p0 p1 p2 p3 p4
                go_wp2_with fail
                clear p5
                go_loopw [95] (fun iv wq => ∃ k : Nat, iv = .int .i64 k ∧ k ≤ D.units.length ∧ Own w wq [rowPk w.heap.size D P] ∧ Hid (∀ i (hi : i < k) (h2 : i < D.units.length), D.units[i].size ≤ 400)) (fun iv _ => D.units.length - (intOf iv).toNat)
                case atStart => exact ⟨0, rfl, Nat.zero_le _, HO.out, fun i hi => absurd hi (Nat.not_lt_zero _)⟩
                case round =>
                  clear HO
                  obtain ⟨k, rfl, hk, hO, HG⟩ := hrel
                  have HO := Lib.hid hO
                  clear hO
                  by_cases hlt : k < D.units.length
                  · obtain ⟨g, o, hg, hr⟩ := HD.out.units.later HO.out.below k (by rw [List.length_map]; exact hlt)
                    rw [List.getElem_map] at hr
                    rw [Nat.mul_one] at hr
                    have q0 := hr 0 _ rfl
                    rw [Nat.add_zero] at q0
                    have hm1 := HR.out.unit _ (List.getElem_mem hlt)
                    unfold maxLen at hm1
                    have HG2 := Lib.hid (fun h => below_mem (p := fun n : ByteArray => n.size ≤ 400) hlt HG.out h)
                    clear hr HG
                    generalize D.units[k] = n at *
                    rw [hg]
                    by_cases c0 : n.size ≤ 400
                    · have j0 : ¬ (400 : Int) < (n.size : Int) := by omega
                      have HG3 := Lib.hid (HG2.out c0)
                      clear HG2 c0
                      go_wp2_with fail
                      go_roundw
                      case rel => exact ⟨k + 1, by go_num, hlt, HO.out, HG3.out⟩
                      case measure => simp [intOf]; omega
                    · have j0 : (400 : Int) < (n.size : Int) := by omega
                      clear HG2 c0
                      go_wp2_with fail
                      go_ret
                      exact ⟨.inl rfl, HO.out.below⟩
                  · obtain rfl : k = D.units.length := by omega
                    have HU := Lib.hid (all_mem (p := fun n : ByteArray => n.size ≤ 400) HG.out)
                    clear HG
                    go_wp2_with fail
                    go_ret
                    exact ⟨.inr ⟨rfl, ⟨HA.out.1, HA.out.2.1, HA.out.2.2.1, HN.out, HA.out.2.2.2.1, HC.out, HA.out.2.2.2.2.1, HFl.out, HA.out.2.2.2.2.2, HU.out⟩⟩, HO.out.below⟩
  · have hcs : (60 : Int) < (D.name.size : Int) ∨ (¬ (60 : Int) < (D.name.size : Int) ∧ (60 : Int) < (D.ver.size : Int)) ∨ (¬ (60 : Int) < (D.name.size : Int) ∧ ¬ (60 : Int) < (D.ver.size : Int) ∧ (20 : Int) < (D.needs.length : Int)) ∨ (¬ (60 : Int) < (D.name.size : Int) ∧ ¬ (60 : Int) < (D.ver.size : Int) ∧ ¬ (20 : Int) < (D.needs.length : Int) ∧ (20 : Int) < (D.confs.length : Int)) ∨ (¬ (60 : Int) < (D.name.size : Int) ∧ ¬ (60 : Int) < (D.ver.size : Int) ∧ ¬ (20 : Int) < (D.needs.length : Int) ∧ ¬ (20 : Int) < (D.confs.length : Int) ∧ (20 : Int) < (D.files.length : Int)) ∨ (¬ (60 : Int) < (D.name.size : Int) ∧ ¬ (60 : Int) < (D.ver.size : Int) ∧ ¬ (20 : Int) < (D.needs.length : Int) ∧ ¬ (20 : Int) < (D.confs.length : Int) ∧ ¬ (20 : Int) < (D.files.length : Int) ∧ (20 : Int) < (D.units.length : Int)) := by omega
    clear hall
    rcases hcs with i0 | ⟨i0, i1⟩ | ⟨i0, i1, i2⟩ | ⟨i0, i1, i2, i3⟩ | ⟨i0, i1, i2, i3, i4⟩ | ⟨i0, i1, i2, i3, i4, i5⟩
    all_goals
      go_enter Tryz.func7, Tryz.ntmps7
      go_wp2_with fail
      go_ret
      exact ⟨.inl rfl, HX.out.below⟩
end Go.Proofs.YtihnjhigemhknaaGreatDoor
