/- A slice of texts among the arguments. -/
import Derived.Test.YteagomlbinfccaaDoorPJoin
import Derived.SliceStrings
namespace Go.Proofs.YteagomlbinfccaaDoor
open Go.RowKit
theorem spot_of_cell {w : World} {a : Addr} {v : Value} (h : w.cell? a = some v) : a.spot = none := by
  unfold World.cell? at h
  split at h
  · split at h
    · cases h
    · rename_i h1; simpa using h1
  · cases h
theorem sts_arg (w : World) (a : Addr) (n c : Nat) (ss : List ByteArray) (hl : n ≤ c) (hm : c ≤ maxLen) (hz : ss.length = c) (hcell : ∀ i, i < ss.length → w.cell? (a.add i) = some (.string (ss.getD i ByteArray.empty))) : ∃ ls, Sts w (.slice (some a) n c) ls := by
  have e : ((ss.take n).map fun s => s.data.toList).length = n := by rw [List.length_map, List.length_take, hz, Nat.min_eq_left hl]
  refine ⟨(ss.take n).map fun s => s.data.toList, some a, c, by rw [e], by rw [e]; exact hl, hm, fun h => ?_⟩
  rw [e] at h
  have h0 := hcell 0 (by omega)
  have hs := spot_of_cell h0
  obtain ⟨b, o, p⟩ := a
  have hs : p = none := hs
  subst hs
  refine ⟨b, o, rfl, World.block_lt_of_cell? w _ h0, fun j hj => ?_⟩
  rw [e] at hj
  have h1 := hcell j (by omega)
  rw [List.getElem_map, List.getElem_take]
  rw [List.getD_eq_getElem?_getD, List.getElem?_eq_getElem (by omega)] at h1
  rw [Option.getD_some, Addr.add_mid] at h1
  exact h1
end Go.Proofs.YteagomlbinfccaaDoor
