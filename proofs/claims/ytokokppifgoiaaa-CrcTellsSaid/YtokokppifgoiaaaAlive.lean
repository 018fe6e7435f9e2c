/- The document's example holds of the program; the call makes memory alone. -/
import Derived.Test.YtokokppifgoiaaaOf
import Derived.Below
import Derived.Lib.SmallJoins
namespace Go.Proofs.Ytokokppifgoiaaa
set_option linter.unusedVariables false
set_option linter.unusedSimpArgs false
open Go.RowKit

theorem crc_nine : (crc [49, 50, 51, 52, 53, 54, 55, 56, 57]).toNat = 3421780262 := by decide +kernel

/-- Three new blocks. -/
theorem cells_three (w : World) (o1 o2 o3 : Obj) : (((w.alloc o1).alloc o2).alloc o3).heap[w.heap.size]? = some o1 ∧ (((w.alloc o1).alloc o2).alloc o3).heap[w.heap.size + 1]? = some o2 ∧ (((w.alloc o1).alloc o2).alloc o3).heap[w.heap.size + 1 + 1]? = some o3 := by
  show (((w.heap.push o1).push o2).push o3)[w.heap.size]? = some o1 ∧ (((w.heap.push o1).push o2).push o3)[w.heap.size + 1]? = some o2 ∧ (((w.heap.push o1).push o2).push o3)[w.heap.size + 1 + 1]? = some o3
  refine ⟨?_, ?_, ?_⟩ <;> simp only [Array.getElem?_push, Array.size_push]
  · rw [if_neg (by omega), if_neg (by omega), if_pos trivial]
  · rw [if_neg (by omega), if_pos trivial]
  · rw [if_pos trivial]

def aliveRows (w : World) : List (Value × List Int) := [(.slice (some ⟨w.heap.size, 0, none⟩) 4 4, [49, 50, 51, 52]), (.slice (some ⟨w.heap.size + 1, 0, none⟩) 5 5, [53, 54, 55, 56, 57])]

theorem alive_rows (w W : World) (h1 : W.heap[w.heap.size]? = some (Obj.cells #[.int .u8 49, .int .u8 50, .int .u8 51, .int .u8 52] 5 (4, 5))) (h2 : W.heap[w.heap.size + 1]? = some (Obj.cells #[.int .u8 53, .int .u8 54, .int .u8 55, .int .u8 56, .int .u8 57] 5 (5, 6)))
    (h3 : W.heap[w.heap.size + 1 + 1]? = some (Obj.cells #[.slice (some ⟨w.heap.size, 0, none⟩) 4 4, .slice (some ⟨w.heap.size + 1, 0, none⟩) 5 5] 22)) :
    ∀ i (h : i < (aliveRows w).length), W.cell? ⟨w.heap.size + 1 + 1, i, none⟩ = some (aliveRows w)[i].1 ∧ IsBytes W (aliveRows w)[i].1 (aliveRows w)[i].2 := by
  intro i hi
  have hi' : i = 0 ∨ i = 1 := by simp [aliveRows] at hi; omega
  rcases hi' with rfl | rfl
  · refine ⟨by simp [World.cell?, h3, aliveRows], _, _, rfl, by simp [aliveRows], fun _ => ⟨w.heap.size, 0, rfl, ?_⟩, by simp [aliveRows]⟩
    intro j hj
    have hj' : j = 0 ∨ j = 1 ∨ j = 2 ∨ j = 3 := by simp [aliveRows] at hj; omega
    rcases hj' with rfl | rfl | rfl | rfl <;> simp [World.cell?, h1, aliveRows]
  · refine ⟨by simp [World.cell?, h3, aliveRows], _, _, rfl, by simp [aliveRows], fun _ => ⟨w.heap.size + 1, 0, rfl, ?_⟩, by simp [aliveRows]⟩
    intro j hj
    have hj' : j = 0 ∨ j = 1 ∨ j = 2 ∨ j = 3 ∨ j = 4 := by simp [aliveRows] at hj; omega
    rcases hj' with rfl | rfl | rfl | rfl | rfl <;> simp [World.cell?, h2, aliveRows]

set_option maxHeartbeats 800000 in
theorem alive_any (w : World) :
    Calls Try.prog 6 #[] w fun e w' => e = .returned (.bool true) ∧ Below w.heap.size w w' := by
  have kc := fun (C : Array Value) (n c : Nat) => Joins.run_convert_bytes_const_at (P := Try.prog) w 22 5 C n c w.heap.size rfl Try.underlying22 Try.underlying5
  have kd := fun (C D : Array Value) (n c : Nat) => Joins.run_convert_bytes_const_at (P := Try.prog) (w.alloc (.cells D 5 (4, 5))) 22 5 C n c (w.heap.size + 1) (by simp) Try.underlying22 Try.underlying5
  go_enter Try.func6, Try.ntmps6
  go_wp2_with fail
  refine (of_any (w.heap.size + 1 + 1) 2 (aliveRows w) _ (by simp [aliveRows]) (alive_rows w _ ?_ ?_ ?_)).mono ?_
  · exact (cells_three w _ _ _).1
  · exact (cells_three w _ _ _).2.1
  · exact (cells_three w _ _ _).2.2
  · rintro e w' ⟨rfl, rfl⟩
    go_wp2_with fail
    go_ret
    exact ⟨by simp [aliveRows, crc_nine], (((Below.refl _ _).alloc (Nat.le_refl _) _).alloc (by simp) _).alloc (by simp; omega) _⟩
end Go.Proofs.Ytokokppifgoiaaa
