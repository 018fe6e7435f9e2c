/- A tree that the law has made: what stores make of it; New. -/
import Derived.Test.YtamkfadammlhbaaGreatDoorTree2
namespace Go.Proofs.YtamkfadammlhbaaGreatDoor
open Go.RowKit
open Go.ChangeMaps (setBlock)
set_option linter.unusedVariables false
set_option linter.unusedSimpArgs false
set_option maxRecDepth 100000

/-- A tree among the law's blocks: no block twice. -/
structure Tree (S : Blocks) (D : Value → List Int → Prop) (t : Nat) (T : Tr) : Prop where
  at_ : TreeIn (inS S) D t T
  apart : (t :: T.foot).Nodup
  good : Good T
/-- What was there and is not the tree's is as it was; what is the tree's was its own, or is new. -/
structure Frame (S S' : Blocks) (F F' : List Nat) (n : Nat) : Prop where
  kept : ∀ b o, (b, o) ∈ S → b ∉ F → (b, o) ∈ S'
  fresh : ∀ b ∈ F', b ∈ F ∨ n ≤ b
theorem Frame.refl (S : Blocks) (F : List Nat) (n : Nat) : Frame S S F F n := ⟨fun _ _ h _ => h, fun _ h => .inl h⟩
theorem foot_mem {T : Tr} {p : Int × Nd} (hp : p ∈ T.nodes) {b : Nat} (hb : b ∈ p.2.foot) : b ∈ T.foot := List.mem_cons_of_mem _ (List.mem_flatMap.2 ⟨p, hp, hb⟩)

theorem newDir_any (w : World) : Calls Tryz.prog 30 #[] w fun e w' => e = .returned (.pointer (some ⟨w.heap.size + 1, 0, none⟩)) ∧ w' = (w.alloc (.map #[] 0)).alloc (.cells #[.map (some w.heap.size), .slice none 0 0, .int .i64 0] 86) := by
  have hmk : ∀ w, (Instr.makeMap 84 none).run Tryz.prog w = .ok (.map (some w.heap.size)) (w.alloc (.map #[] 0)) := fun w => rfl
  go_enter Tryz.func30, Tryz.ntmps30
  go_wp2
  go_ret
  exact ⟨by simp, rfl⟩
/-- A new tree, its blocks from b on. -/
def newNd (b : Nat) : Nd := ⟨b + 1, some b, [], .slice none 0 0, [], 0⟩
def newT (b : Nat) (q : Int) : Tr := ⟨b, max q 0, 2, [(1, newNd (b + 1))]⟩
def NewAt2 (w0 : World) (S : Blocks) (L : List Rw) (D : Value → List Int → Prop) (w : World) (q : Int) (e : Ending) (w' : World) : Prop :=
  ∃ S', e = .returned (.pointer (some ⟨w.heap.size + 3, 0, none⟩)) ∧ Own ⟨w0, S'⟩ w' L ∧ Tree S' D (w.heap.size + 3) (newT w.heap.size q) ∧ (∀ b o, (b, o) ∈ S → (b, o) ∈ S')
theorem new_tree (S : Blocks) (D : Value → List Int → Prop) (b : Nat) (q : Int) (o1 : Obj) (hm1 : MapO KI o1 (put [] (1 : Int) (.pointer (some ⟨b + 2, 0, none⟩)))) (hD : D (.slice none 0 0) []) :
    Tree ((b + 3, .cells (treeCells (newT b q)) 75) :: (b + 2, .cells #[.map (some (b + 1)), .slice none 0 0, .int .i64 0] 86) :: (b + 1, .map #[] 0) :: (b, o1) :: S) D (b + 3) (newT b q) := by
  have hone : ∀ p ∈ (newT b q).nodes, p = (1, newNd (b + 1)) := fun p hp => by simpa [newT] using hp
  refine ⟨⟨List.mem_cons_self .., ⟨o1, List.mem_cons_of_mem _ (List.mem_cons_of_mem _ (List.mem_cons_of_mem _ (List.mem_cons_self ..))), hm1⟩, fun p hp => ?_⟩, ?_, ⟨?_, ?_, ?_, ?_⟩⟩
  · rw [hone p hp]
    refine ⟨List.mem_cons_of_mem _ (List.mem_cons_self ..), fun k hk => ?_, (fun h => by cases h), hD, ⟨none, 0, rfl⟩⟩
    have hk2 : b + 1 = k := by injection hk
    subst hk2
    exact ⟨.map #[] 0, List.mem_cons_of_mem _ (List.mem_cons_of_mem _ (List.mem_cons_self ..)), MapO.empty KS⟩
  · show ([b + 3, b, b + 1 + 1, b + 1] : List Nat).Nodup
    simp; omega
  · show ([1] : List Int).Nodup
    simp
  · exact ⟨newNd (b + 1), b + 1, rfl, rfl⟩
  · intro p hp q' hq'
    rw [hone p hp] at hq'
    exact absurd hq' (by simp [newNd])
  · intro p hp
    rw [hone p hp]
    exact ⟨Int.le_refl _, by show (1 : Int) < 2; decide⟩
theorem upd_not {S : Blocks} {b : Nat} (o : Obj) (h : ∀ m ∈ S, m.1 ≠ b) : upd S b o = S := by
  unfold upd
  refine (List.map_congr_left fun m hm => ?_).trans (List.map_id _)
  rw [if_neg (h m hm)]; rfl
theorem tnew_any {w0 w : World} {S : Blocks} {L : List Rw} {D : Value → List Int → Prop} (hO : Own ⟨w0, S⟩ w L) (hD : D (.slice none 0 0) []) (q : Int) (hq : (Lit.int .i64 q).wf = true) :
    Calls Tryz.prog 9 #[.int .i64 q] w (NewAt2 w0 S L D w q) := by
  have h1 := hO.newB (.map #[] 0)
  have h2 := h1.newB (.map #[] 0)
  have h3 := h2.newB (.cells #[.map (some (w.heap.size + 1)), .slice none 0 0, .int .i64 0] 86)
  have e1 : (w.alloc (.map #[] 0)).heap.size = w.heap.size + 1 := by simp
  have e2 : ((w.alloc (.map #[] 0)).alloc (.map #[] 0)).heap.size = w.heap.size + 2 := by simp
  rw [e1, e2] at h3
  have hnd := newDir_any (w.alloc (.map #[] 0))
  rw [e1] at hnd
  have hmk : ∀ w, (Instr.makeMap 73 none).run Tryz.prog w = .ok (.map (some w.heap.size)) (w.alloc (.map #[] 0)) := fun w => rfl
  have es3 : (((w.alloc (.map #[] 0)).alloc (.map #[] 0)).alloc (.cells #[.map (some (w.heap.size + 1)), .slice none 0 0, .int .i64 0] 86)).heap.size = w.heap.size + 3 := by simp
  obtain ⟨W3, hW3⟩ : ∃ W3, W3 = ((w.alloc (.map #[] 0)).alloc (.map #[] 0)).alloc (.cells #[.map (some (w.heap.size + 1)), .slice none 0 0, .int .i64 0] 86) := ⟨_, rfl⟩
  rw [← hW3] at h3 hnd es3
  clear hW3 h1 h2
  obtain ⟨o1, hup, hm1⟩ := (MapO.empty KI).update kindsI Tryz.underlying73 (h3.at (b := w.heap.size) (o := .map #[] 0) (by simp)) 1 (.pointer (some ⟨w.heap.size + 2, 0, none⟩))
  have h4 := h3.setB (b := w.heap.size) (o := .map #[] 0) (by simp) o1
  have e4 : (setBlock W3 w.heap.size o1).heap.size = w.heap.size + 3 := by rw [(setBlock_heap W3 w.heap.size o1 (by omega)).2.2, es3]
  obtain ⟨W4, hW4⟩ : ∃ W4, W4 = setBlock W3 w.heap.size o1 := ⟨_, rfl⟩
  rw [← hW4] at h4 hup e4
  clear hW4
  have h5 := h4.newB (.cells (treeCells (newT w.heap.size q)) 75)
  have hS : upd S w.heap.size o1 = S := upd_not o1 fun m hm e => by have := lt_of_heap (hO.maps m hm).2; omega
  rw [e4, show upd ((w.heap.size + 2, Obj.cells #[.map (some (w.heap.size + 1)), .slice none 0 0, .int .i64 0] 86) :: (w.heap.size + 1, Obj.map #[] 0) :: (w.heap.size, Obj.map #[] 0) :: S) w.heap.size o1 = (w.heap.size + 2, Obj.cells #[.map (some (w.heap.size + 1)), .slice none 0 0, .int .i64 0] 86) :: (w.heap.size + 1, Obj.map #[] 0) :: (w.heap.size, o1) :: upd S w.heap.size o1 by
    unfold upd
    rw [List.map_cons, List.map_cons, List.map_cons, if_neg (by simp), if_neg (by simp), if_pos rfl], hS] at h5
  have HP := Lib.hid (show NewAt2 w0 S L D w q (.returned (.pointer (some ⟨w.heap.size + 3, 0, none⟩))) (W4.alloc (.cells (treeCells (newT w.heap.size q)) 75)) from
    ⟨_, rfl, h5, new_tree S D _ q o1 hm1 hD, fun b o hb => List.mem_cons_of_mem _ (List.mem_cons_of_mem _ (List.mem_cons_of_mem _ (List.mem_cons_of_mem _ hb)))⟩)
  clear h3 h4 h5 hS hm1 hO hD e1 e2 es3
  go_enter Tryz.func9, Tryz.ntmps9
  go_wp2_with (go_at_call 30; refine hnd.mono ?_; rintro e w' ⟨rfl, rfl⟩)
  go_ret
  exact HP.out
end Go.Proofs.YtamkfadammlhbaaGreatDoor
