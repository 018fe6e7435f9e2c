/- take. -/
import Derived.Test.YtamkfadammlhbaaGreatDoorTree5
import Derived.StillTailTactics
namespace Go.Proofs.YtamkfadammlhbaaGreatDoor
open Go.RowKit
open Go.ChangeMaps (setBlock)
set_option linter.unusedVariables false
set_option linter.unusedSimpArgs false
set_option maxRecDepth 100000

theorem NodeIn.look1 {w : World} {D : Value → List Int → Prop} {n : Nd} (H : NodeIn (inW w) D n) {k : Nat} (hk : n.k = some k) (s : ByteArray) :
    (Instr.lookup 84 (.map (some k)) (.string s) false).run Tryz.prog w = .ok (.int .i64 ((Go.Proofs.YtamkfadammlhbaaGreatDoor.look n.kids s).getD 0)) w := by
  obtain ⟨o, h1, h2⟩ := H.kid k hk
  have := MapO.lookup kindsS Tryz.underlying84 (zeroInt w) h2 h1 s false
  have e := look_map (fun i : Int => Value.int .i64 i) n.kids s
  rw [show kidsV n.kids = n.kids.map fun p => (p.1, (fun i : Int => Value.int .i64 i) p.2) from rfl, e] at this
  rw [this]
  cases Go.Proofs.YtamkfadammlhbaaGreatDoor.look n.kids s <;> rfl
theorem mem_del {β : Type} {m : List (ByteArray × β)} {a : ByteArray} {q : ByteArray × β} (h : q ∈ del m a) : q ∈ m := by
  induction m with
  | nil => exact h
  | cons p r ih =>
    unfold del at h
    split at h
    · exact List.mem_cons_of_mem _ h
    · rcases List.mem_cons.1 h with h | h
      · exact h ▸ List.mem_cons_self ..
      · exact List.mem_cons_of_mem _ (ih h)
theorem del_kidsV (kids : List (ByteArray × Int)) (a : ByteArray) : del (kidsV kids) a = kidsV (del kids a) := by
  unfold kidsV
  induction kids with
  | nil => rfl
  | cons p r ih =>
    simp only [List.map_cons]
    unfold del
    split
    · rfl
    · rw [ih]; simp
def takeT (T : Tr) (j : Int) (nd : Nd) (name : ByteArray) (i : Int) (f : Nd) : Tr := (T.setN i { f with places := f.places - 1 }).setN j { nd with kids := del nd.kids name }
set_option maxHeartbeats 1000000 in
theorem take_any {w0 w : World} {S : Blocks} {L : List Rw} {D : Value → List Int → Prop} {t : Nat} {T : Tr} (hO : Own ⟨w0, S⟩ w L) (H : Tree S D t T) {j : Int} {nd : Nd} {k : Nat} (hj : look T.nodes j = some nd) (hk : nd.k = some k) (name : ByteArray)
    {i : Int} {f : Nd} (hs : look nd.kids name = some i) (hi : look T.nodes i = some f) (hf : f.k = none) (hp0 : 0 ≤ f.places) (hp : f.places ≤ 1000000000) :
    Calls Tryz.prog 89 #[.pointer (some ⟨t, 0, none⟩), .agg #[.pointer (some ⟨nd.b, 0, none⟩), .string name]] w (Done w0 S L D t T (takeT T j nd name i f) w (.tuple #[])) := by
  have hij : j ≠ i := fun e => by subst e; rw [hi] at hj; injection hj with hj; subst hj; rw [hf] at hk; cases hk
  have hO1 := (hO.alloc (.cells #[.pointer (some ⟨nd.b, 0, none⟩), .string name] 115)).drew
  obtain ⟨w1, hw1⟩ : ∃ w1, w1 = w.alloc (.cells #[.pointer (some ⟨nd.b, 0, none⟩), .string name] 115) := ⟨_, rfl⟩
  have p0 : w1.drew.cell? ⟨w.heap.size, 0, none⟩ = some (.pointer (some ⟨nd.b, 0, none⟩)) := by rw [hw1]; show (w.alloc _).cell? _ = _; rw [World.cell?_alloc_new]; rfl
  have p1 : w1.drew.cell? ⟨w.heap.size, 1, none⟩ = some (.string name) := by rw [hw1]; show (w.alloc _).cell? _ = _; rw [World.cell?_alloc_new]; rfl
  rw [← hw1] at hO1
  have hN := H.at_.node _ (look_mem hj)
  have hR := H.at_.inWorld hO1
  obtain ⟨_, _, d2⟩ := hR.at0
  have hNW := hR.node _ (look_mem hj)
  obtain ⟨c0, _, _⟩ := hNW.at0
  rw [hk] at c0
  have hl1 := hNW.look1 hk name
  rw [hs] at hl1
  dsimp only [Option.getD_some] at hl1
  have hl2 := hR.look i
  rw [hi] at hl2
  dsimp only [ptrOf] at hl2
  have hF := H.at_.node _ (look_mem hi)
  have f2 : w1.drew.cell? ⟨f.b, 2, none⟩ = some (.int .i64 f.places) := by rw [hO1.cellB hF.cells 2]; rfl
  have fz : w1.drew.frozen? ⟨f.b, 2, none⟩ = false := free_at (hO1.at hF.cells) 2
  have hwr : IntKind.i64.wrap (f.places - 1) = f.places - 1 := IntWalk.i64_in _ (by omega)
  have hO2 := (hO1.storeB hF.cells 2 (.int .i64 (f.places - 1))).drew
  have H2 := H.setCells hi { f with places := f.places - 1 } rfl rfl rfl hF.dat hF.form
  have hne : w.heap.size ≠ f.b := fun e => by
    have := (hO.atLt hF.cells).2
    exact absurd (e ▸ this) (Nat.lt_irrefl _)
  obtain ⟨w2, hw2⟩ : ∃ w2, w2 = (w1.setCell ⟨f.b, 2, none⟩ (.int .i64 (f.places - 1))).drew := ⟨_, rfl⟩
  have q0 : w2.drew.cell? ⟨w.heap.size, 0, none⟩ = some (.pointer (some ⟨nd.b, 0, none⟩)) := by
    rw [hw2]; show (w1.drew.setCell _ _).cell? _ = _
    rw [World.cell?_setCell_far _ _ _ _ (fun e => hne e.symm)]; exact p0
  have q1 : w2.drew.cell? ⟨w.heap.size, 1, none⟩ = some (.string name) := by
    rw [hw2]; show (w1.drew.setCell _ _).cell? _ = _
    rw [World.cell?_setCell_far _ _ _ _ (fun e => hne e.symm)]; exact p1
  have hO2 : Own ⟨w0, upd S f.b (.cells (nodeCells { f with places := f.places - 1 }) 86)⟩ w2.drew L := by rw [hw2]; exact hO2
  have hj2 : look (T.setN i { f with places := f.places - 1 }).nodes j = some nd := by unfold Tr.setN; rw [look_put, if_neg hij]; exact hj
  have hN2 := H2.at_.node _ (look_mem hj2)
  have hNW2 := (H2.at_.inWorld hO2).node _ (look_mem hj2)
  obtain ⟨c02, _, _⟩ := hNW2.at0
  rw [hk] at c02
  obtain ⟨o, h1, h2⟩ := hN2.kid k hk
  obtain ⟨o', hdel, hm'⟩ := h2.delete (w := w2.drew) kindsS Tryz.underlying84 (hO2.at h1) name 0
  rw [del_kidsV] at hm'
  have H3 := H2.setKids hj2 hk hm' (fun q hq => H2.good.kids _ (look_mem hj2) q (mem_del hq))
  have hO3 := hO2.setB h1 o'
  have hfr : Frame S (upd (upd S f.b (.cells (nodeCells { f with places := f.places - 1 }) 86)) k o') (t :: T.foot) (t :: (takeT T j nd name i f).foot) w.heap.size := by
    have e : (takeT T j nd name i f).foot = T.foot := (setN_foot (n' := { nd with kids := del nd.kids name }) hj2 rfl rfl).trans (setN_foot (n' := { f with places := f.places - 1 }) hi rfl rfl)
    refine ⟨fun b x hb hnb => ?_, fun b hb => .inl (by rwa [e] at hb)⟩
    have r1 := (foot_node hj).2 k hk
    have r2 := (foot_node hi).1
    exact upd_other (upd_other hb (fun e => hnb (by rw [e]; exact List.mem_cons_of_mem _ r2)) _) (fun e => hnb (by rw [e]; exact List.mem_cons_of_mem _ r1)) _
  have HP := Lib.hid (show Done w0 S L D t T (takeT T j nd name i f) w (.tuple #[]) (.returned (.tuple #[])) (setBlock w2.drew k o') from ⟨_, rfl, hO3, H3, hfr⟩)
  clear hO hO1 hO2 hO3 H H2 H3 hfr hN hN2 hNW hNW2 hF hR h1 h2 hm' hi hj hj2 hk hf hs hne hij
  go_enter Tryz.func89, Tryz.ntmps89
  go_wp2_with fail
  rw [← hw1]
  clear hw1
  go_still_tail 19, (by kernel_rfl)
  go_wp2_with fail
  rw [← hw2]
  clear hw2
  go_still_tail 7, (by kernel_rfl)
  go_wp2_with fail
  trace_state
  refine bodyPost_end (v := .tuple #[]) ?_ rfl HP.out
  simp [results, Tryz.results89, go_sem]
end Go.Proofs.YtamkfadammlhbaaGreatDoor
