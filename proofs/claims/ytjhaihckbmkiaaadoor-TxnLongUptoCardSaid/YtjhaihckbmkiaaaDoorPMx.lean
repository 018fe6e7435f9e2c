/- The world's shape gives the library's own bound. -/
import Derived.Test.YtjhaihckbmkiaaaDoorPSplit
import Derived.Shelf.Vars
namespace Go.Proofs.YtjhaihckbmkiaaaDoor
open Go.RowKit
theorem mx_of {W : World} (h : W.ShapedOpen Tryd.prog) : Mx W := by
  obtain ⟨m, hm⟩ : ∃ m, W.cell? ⟨0, 0, none⟩ = some (.int .i64 m) := cell_of_shapedOpen_int (zero := #[.int .i64 0]) (t := 3) (k := .i64) h (of_decide_eq_true (by kernel_rfl)) (by kernel_rfl) rfl (by kernel_rfl) (by kernel_rfl) (by kernel_rfl)
  exact ⟨World.block_lt_of_cell? W _ hm, m, hm⟩
end Go.Proofs.YtjhaihckbmkiaaaDoor
