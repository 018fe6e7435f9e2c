/- waits, free: may a unit be placed? -/
import Derived.Test.YtnjabanjgckeoaaG6
namespace Go.Proofs.Ytnjabanjgckeoaa
open Go.RowKit
open Go.ChangeMaps (setBlock)
set_option linter.unusedVariables false
set_option linter.unusedSimpArgs false
set_option maxRecDepth 100000

/-- Behind which each stands, in a graph's memory. -/
structure BeAt (w : World) (g bb : Nat) (ks : List Nm) (beh : Nm → List Nm) : Prop where
  cell : w.cell? ⟨g, 1, none⟩ = some (.map (some bb))
  map : ∃ o mb, w.heap[bb]? = some o ∧ MapO keyN o mb ∧ (∀ n ∈ ks, ∃ v, look mb n = some v ∧ Sts w v (beh n)) ∧ (∀ n, n ∉ ks → look mb n = none)
theorem BeAt.later {w w' : World} {g bb : Nat} {ks : List Nm} {beh : Nm → List Nm} (h : BeAt w g bb ks beh) (hb : Below w.heap.size w w') : BeAt w' g bb ks beh := by
  obtain ⟨o, mb, h1, h2, h3, h4⟩ := h.map
  have hg : g < w.heap.size := World.block_lt_of_cell? w ⟨g, 1, none⟩ h.cell
  refine ⟨(hb.cell (p := ⟨g, 1, none⟩) hg).trans h.cell, o, mb, (hb.block _ (lt_of_heap h1)).trans h1, h2, fun n hn => ?_, h4⟩
  obtain ⟨v, e, hs⟩ := h3 n hn
  exact ⟨v, e, hs.later hb⟩
theorem und_be : Try.prog.underlying 47 = some (.map 9 23) := by kernel_rfl
theorem zero_sl (w : World) : (zeroValue 23).run Try.prog w = .ok (.slice none 0 0) w := by
  rw [Try.zeroValue23]
theorem BeAt.lookup {w : World} {g bb : Nat} {ks : List Nm} {beh : Nm → List Nm} (h : BeAt w g bb ks beh) {n : Nm} : ∃ v, Sts w v (if n ∈ ks then beh n else []) ∧ ∀ w2, Below w.heap.size w w2 → (Instr.lookup 47 (.map (some bb)) (.string (toB n)) false).run Try.prog w2 = .ok v w2 := by
  obtain ⟨o, mb, h1, h2, h3, h4⟩ := h.map
  have hl := fun w2 (hb : Below w.heap.size w w2) => h2.lookup (P := Try.prog) (kindsN und_str) und_be (zero_sl w2) ((hb.block _ (lt_of_heap h1)).trans h1) n false
  by_cases hn : n ∈ ks
  · obtain ⟨v, e, hs⟩ := h3 n hn
    refine ⟨v, by rw [if_pos hn]; exact hs, fun w2 hb => ?_⟩
    rw [hl w2 hb, e]; rfl
  · refine ⟨_, by rw [if_neg hn]; exact sts_nil w, fun w2 hb => ?_⟩
    rw [hl w2 hb, h4 n hn]; rfl
theorem waits_any {w : World} {b5 : Nat} {v5 : Value} {left : List Nm} (hb : w.cell? ⟨b5, 0, none⟩ = some v5) (hs : Sts w v5 left) (x : Nm) :
    Calls Try.prog 42 #[.string (toB x), .pointer (some ⟨b5, 0, none⟩)] w fun e w' => e = .returned (.bool (decide (x ∈ left))) ∧ w = w' := by
  have hc := contains_any v5 left x w hs
  obtain ⟨a, n, c, rfl⟩ := hs.shape
  clear hs
  generalize decide (x ∈ left) = b at *
  go_enter Try.func42, Try.ntmps42
  go_wp2_with (go_at_call 25; refine hc.mono ?_; rintro e w' ⟨rfl, rfl⟩)
  go_ret
  exact ⟨rfl, rfl⟩
set_option maxHeartbeats 2000000 in
theorem free_any {w : World} {g bb b2 b5 b6 : Nat} {v5 : Value} {ks left : List Nm} {beh : Nm → List Nm} (h : BeAt w g bb ks beh) (h2 : w.cell? ⟨b2, 0, none⟩ = some (.pointer (some ⟨g, 0, none⟩)))
    (h6 : w.cell? ⟨b6, 0, none⟩ = some (.func (.func 42) #[] #[.pointer (some ⟨b5, 0, none⟩)])) (h5 : w.cell? ⟨b5, 0, none⟩ = some v5) (hs : Sts w v5 left) (n : Nm) (hn : n ∈ ks) :
    Calls Try.prog 43 #[.string (toB n), .pointer (some ⟨b2, 0, none⟩), .pointer (some ⟨b6, 0, none⟩)] w fun e w' => e = .returned (.bool (freeN beh left n)) ∧ Below w.heap.size w w' := by
  obtain ⟨v, hv, hl0⟩ := h.lookup (n := n)
  rw [if_pos hn] at hv
  have hd : Below w.heap.size w w.drew := (Below.refl _ w).drew
  have hl := hl0 w (Below.refl _ _)
  have hl' := hl0 w.drew hd
  have hc := h.cell
  have hb5 := World.block_lt_of_cell? w ⟨b5, 0, none⟩ h5
  have kc := containsF_lb 42 #[.pointer (some ⟨b5, 0, none⟩)] (fun x => decide (x ∈ left)) (enters_of Try.func42 (by kernel_rfl) rfl) v (beh n) w.drew (hv.later hd) (fun W y _ hb => (waits_any (w := W) (((hd.trans (hb.mono hd.size)).cell (p := ⟨b5, 0, none⟩) hb5).trans h5) (hs.later (hd.trans (hb.mono hd.size))) y).mono fun e w' ⟨e1, e2⟩ => ⟨e1, e2 ▸ Below.refl _ _⟩)
  obtain ⟨a, m, c, rfl⟩ := hv.shape
  have HE := Lib.hid (show freeN beh left n = !((beh n).any fun x => decide (x ∈ left)) from rfl)
  have HD := Lib.hid hd
  clear hl0 h hv hs h5 hb5 hd
  generalize (beh n).any (fun x => decide (x ∈ left)) = r at *
  generalize toB n = nb at *
  go_enter Try.func43, Try.ntmps43
  go_upto_region 1 with fail
  go_still_tail 7, (by kernel_rfl)
  go_wp2_with (go_at_call 41; refine kc.mono ?_; rintro e w' ⟨rfl, hb⟩)
  go_ret
  exact ⟨by rw [HE.out]; rfl, HD.out.trans (hb.mono HD.out.size)⟩
end Go.Proofs.Ytnjabanjgckeoaa
