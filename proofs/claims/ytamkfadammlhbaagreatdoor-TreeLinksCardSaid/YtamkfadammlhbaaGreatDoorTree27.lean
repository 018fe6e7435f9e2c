/- Numbers in order. -/
import Derived.Test.YtamkfadammlhbaaGreatDoorTree26
import Derived.Sort.OwnSortedInts
import Derived.Lib.OwnBridge
namespace Go.Proofs.YtamkfadammlhbaaGreatDoor
open Go.RowKit
open Go.ChangeMaps (setBlock)
open Go.Sort
set_option linter.unusedVariables false
set_option linter.unusedSimpArgs false
set_option maxRecDepth 100000

def rowI (v : Value) (zs : List Int) : Rw := ⟨3, 1, v, zs.length, zs.map (Value.int .i64)⟩
theorem sort_row {W0 : Base} {w : World} {L : List Rw} {v : Value} {zs : List Int} (h : Own W0 w (rowI v zs :: L)) (hl : zs.length < 4611686018427387904) :
    Calls Tryz.prog 60 #[v] w fun e w' => e = .returned (.tuple #[]) ∧ Own W0 w' (rowI v (zs.mergeSort fun x y => decide (x ≤ y)) :: L) := by
  have h' : Own W0 w (⟨3, 1, v, zs.length, zs.map (Value.int .i64)⟩ :: L) := h
  have hown : w.ownsRow W0.world.heap.size 3 1 v zs.length (zs.map (Value.int .i64)) := h.head
  have hsl : (zs.mergeSort fun x y => decide (x ≤ y)).length = zs.length := List.length_mergeSort _
  rcases hown.2 with ⟨hv, hn⟩ | ⟨g, cap, cur, hv, hg, hb, hn, hcap, hsz, htk⟩
  · have hz : zs = [] := List.eq_nil_of_length_eq_zero hn
    subst hz
    rw [hv]
    refine (Tryz.slices_Sort_int_none none 0 w).mono ?_
    rintro e w' ⟨rfl, rfl⟩
    refine ⟨rfl, ?_⟩
    rw [hv] at h
    simpa using h
  · have hv2 : v = .slice (some ⟨g, 0, none⟩) zs.length cap := hv
    have hH : Holds (Value.int .i64) w g 0 zs.toArray := holds_of_blockI hb (by rw [Nat.mul_one] at htk; exact htk)
    have hlt : g < w.heap.size := lt_of_heap hb
    rw [hv2]
    refine (Tryz.slices_Sort_int g 0 cap zs w hH hlt hl).mono ?_
    rintro e w' ⟨rfl, n, os, rfl⟩
    refine ⟨rfl, ?_⟩
    have hrow := ownsRow_sortedI (n := n) (os := os) hsl hg hb hn hcap hsz
    rw [hv2] at h'
    have hres := Own.grown (h := h') (by rw [← hsl] at hrow; exact hrow) (grownBy_sortedI _) (.inl (by rw [hsl]))
    unfold rowI
    rw [hsl]
    rw [hsl] at hres
    exact hres
end Go.Proofs.YtamkfadammlhbaaGreatDoor
