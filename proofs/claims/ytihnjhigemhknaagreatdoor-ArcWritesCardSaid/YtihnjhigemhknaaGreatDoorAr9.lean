/- The sum as a part; Write. -/
import Derived.Test.YtihnjhigemhknaaGreatDoorAr7
namespace Go.Proofs.YtihnjhigemhknaaGreatDoor
open Go.RowKit
set_option linter.unusedVariables false
set_option linter.unusedSimpArgs false
set_option maxRecDepth 100000

def crcI (zs : List Int) : Int := ((crc zs).toNat : Int)
theorem crcI_le (zs : List Int) : 0 ≤ crcI zs ∧ crcI zs < 4294967296 := by
  have := (crc zs).isLt
  unfold crcI
  omega
set_option maxHeartbeats 2000000 in
theorem sum_any (v : Value) (zs : List Int) (w : World) (h : By w v zs) : Calls Tryz.prog 18 #[v] w fun e w' => ∃ v', e = .returned v' ∧ Own w w' [rowU v' (le4 (crcI zs))] := by
  have hb0 : Below w.heap.size w (w.alloc (Obj.cells #[v] 34)) := (Below.refl _ w).alloc (Nat.le_refl _) _
  have hof := of_any w.heap.size 1 [(v, zs)] (w.alloc (Obj.cells #[v] 34)) (by show 1 ≤ 1000; decide) (fun i hi => by
    have hi0 : i = 0 := by simp at hi; exact hi
    subst hi0
    exact ⟨by rw [World.cell?_alloc_new]; rfl, IsBytes.of_by (h.later hb0)⟩)
  have e1 : ((([(v, zs)] : List (Value × List Int)).map (·.2)).flatten) = zs := by simp
  rw [e1] at hof
  obtain ⟨c0, c1⟩ := crcI_le zs
  have hnum := num_any (crcI zs) (w.alloc (Obj.cells #[v] 34)) c0 c1
  have hof2 : Calls Tryz.prog 44 #[.slice (some ⟨w.heap.size, 0, none⟩) 1 1] (w.alloc (Obj.cells #[v] 34)) fun e w' => e = .returned (.int .u32 (crcI zs)) ∧ (w.alloc (Obj.cells #[v] 34)) = w' := hof
  have HO := Lib.hid ((Own.start w).alloc (Obj.cells #[v] 34))
  obtain ⟨a, c, hv, _, _⟩ := h.2.2
  subst hv
  clear hof e1 h hb0
  generalize crcI zs = n at *
  have hw1 : IntKind.i64.wrap n = n := IntWalk.i64_in _ (by omega)
  go_enter Tryz.func18, Tryz.ntmps18
  go_wp2_with fail
  refine hof2.mono ?_
  rintro e w2 ⟨rfl, rfl⟩
  go_wp2_with fail
  refine hnum.mono ?_
  rintro e w3 ⟨v3, rfl, hO3⟩
  obtain ⟨a3, n3, c3, rfl⟩ := hO3.formA
  have HO3 := Lib.hid ((HO.out.join hO3).only (r := rowU (.slice a3 n3 c3) (le4 n)) (by simp))
  clear hO3 hof2 hnum
  go_wp2_with fail
  go_ret
  exact ⟨_, rfl, HO3.out⟩
/-- What Write gives: the package's bytes, and their sum. -/
def writeP (D : PkgD) : List Int := packP D ++ le4 (crcI (packP D))
set_option maxHeartbeats 4000000 in
theorem write_no (D : PkgD) (P : PkL) (w : World) (hD : PkAt w D P) (hf : Fits D) (hm : Mx w) (hn : pkOk D = false) :
    Calls Tryz.prog 9 #[.agg #[.string D.name, .string D.ver, .slice P.an D.needs.length P.cn, .slice P.ac D.confs.length P.cc, .slice P.af D.files.length P.cf, .slice P.au D.units.length P.cu]] w fun e w' => e = .returned (.tuple #[.slice none 0 0, .int .i64 1]) ∧ Below w.heap.size w w' := by
  have HX := Lib.hid (show Own w _ [rowPk w.heap.size D P] from (Own.start w).box6 (.string D.name) (.string D.ver) (.slice P.an D.needs.length P.cn) (.slice P.ac D.confs.length P.cc) (.slice P.af D.files.length P.cf) (.slice P.au D.units.length P.cu) 26)
  have HR := fun w1 (k : PkAt w1 D P) (k2 : Mx w1) => pkright_any D P w1 k hf k2
  simp only [hn] at HR
  have HD := Lib.hid hD
  have Hm := Lib.hid hm
  clear hD hm hn
  go_enter Tryz.func9, Tryz.ntmps9
  go_wp2_with fail
  refine (HR _ (HD.out.later HX.out.below) (Hm.out.later HX.out.below)).mono ?_
  rintro e w2 ⟨rfl, hb2⟩
  have HB2 := Lib.hid (HX.out.below.trans (hb2.mono HX.out.below.size))
  clear hb2 HR
  go_wp2_with fail
  go_ret2
  exact ⟨rfl, HB2.out⟩
end Go.Proofs.YtihnjhigemhknaaGreatDoor
