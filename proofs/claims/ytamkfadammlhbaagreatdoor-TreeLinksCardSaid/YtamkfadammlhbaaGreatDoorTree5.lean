/- put, take. -/
import Derived.Test.YtamkfadammlhbaaGreatDoorTree4
import Derived.StillTailTactics
namespace Go.Proofs.YtamkfadammlhbaaGreatDoor
open Go.RowKit
open Go.ChangeMaps (setBlock)
set_option linter.unusedVariables false
set_option linter.unusedSimpArgs false
set_option maxRecDepth 100000

def putT (T : Tr) (j : Int) (nd : Nd) (name : ByteArray) (i : Int) (f : Nd) : Tr := (T.setN j { nd with kids := put nd.kids name i }).setN i { f with places := f.places + 1 }
def Done (w0 : World) (S : Blocks) (L : List Rw) (D : Value → List Int → Prop) (t : Nat) (T T' : Tr) (w : World) (r : Value) (e : Ending) (w' : World) : Prop :=
  ∃ S', e = .returned r ∧ Own ⟨w0, S'⟩ w' L ∧ Tree S' D t T' ∧ Frame S S' (t :: T.foot) (t :: T'.foot) w.heap.size
theorem mem_putk {m : List (ByteArray × Int)} {a : ByteArray} {v : Int} {q : ByteArray × Int} (h : q ∈ put m a v) : q = (a, v) ∨ q ∈ m := by
  induction m with
  | nil => unfold put at h; exact .inl (List.mem_singleton.1 h)
  | cons p r ih =>
    unfold put at h
    split at h
    · rcases List.mem_cons.1 h with h | h
      · exact .inl h
      · exact .inr (List.mem_cons_of_mem _ h)
    · rcases List.mem_cons.1 h with h | h
      · exact .inr (h ▸ List.mem_cons_self ..)
      · rcases ih h with h | h
        · exact .inl h
        · exact .inr (List.mem_cons_of_mem _ h)
theorem put_kidsV (kids : List (ByteArray × Int)) (a : ByteArray) (i : Int) : put (kidsV kids) a (.int .i64 i) = kidsV (put kids a i) := by
  unfold kidsV
  induction kids with
  | nil => rfl
  | cons p r ih =>
    simp only [List.map_cons, put]
    split
    · simp
    · rw [ih]; simp
theorem setN_foot {T : Tr} {i : Int} {n n' : Nd} (hn : look T.nodes i = some n) (hb : n'.b = n.b) (hk : n'.k = n.k) : (T.setN i n').foot = T.foot := by
  unfold Tr.foot Tr.setN
  rw [put_flat (fun n : Nd => n.foot) hn (by unfold Nd.foot; rw [hb, hk])]
theorem foot_node {T : Tr} {i : Int} {n : Nd} (hn : look T.nodes i = some n) : n.b ∈ T.foot ∧ ∀ k, n.k = some k → k ∈ T.foot :=
  ⟨foot_mem (look_mem hn) (List.mem_cons_self ..), fun k hk => foot_mem (look_mem hn) (show k ∈ n.foot by unfold Nd.foot; rw [hk]; simp)⟩
set_option maxHeartbeats 1000000 in
theorem put_any {w0 w : World} {S : Blocks} {L : List Rw} {D : Value → List Int → Prop} {t : Nat} {T : Tr} (hO : Own ⟨w0, S⟩ w L) (H : Tree S D t T) {j : Int} {nd : Nd} {k : Nat} (hj : look T.nodes j = some nd) (hk : nd.k = some k) (name : ByteArray)
    {i : Int} {f : Nd} (hi : look T.nodes i = some f) (hf : f.k = none) (hp0 : 0 ≤ f.places) (hp : f.places ≤ 1000000000) :
    Calls Tryz.prog 88 #[.pointer (some ⟨t, 0, none⟩), .agg #[.pointer (some ⟨nd.b, 0, none⟩), .string name], .int .i64 i] w (Done w0 S L D t T (putT T j nd name i f) w (.tuple #[])) := by
  have hij : i ≠ j := fun e => by subst e; rw [hi] at hj; injection hj with hj; subst hj; rw [hf] at hk; cases hk
  have hO1 := hO.alloc (.cells #[.pointer (some ⟨nd.b, 0, none⟩), .string name] 115)
  obtain ⟨w1, hw1⟩ : ∃ w1, w1 = w.alloc (.cells #[.pointer (some ⟨nd.b, 0, none⟩), .string name] 115) := ⟨_, rfl⟩
  have p0 : w1.cell? ⟨w.heap.size, 0, none⟩ = some (.pointer (some ⟨nd.b, 0, none⟩)) := by rw [hw1, World.cell?_alloc_new]; rfl
  have p1 : w1.cell? ⟨w.heap.size, 1, none⟩ = some (.string name) := by rw [hw1, World.cell?_alloc_new]; rfl
  rw [← hw1] at hO1
  have hN := H.at_.node _ (look_mem hj)
  have c0 : w1.cell? ⟨nd.b, 0, none⟩ = some (.map (some k)) := by rw [hO1.cellB hN.cells 0, ← hk]; rfl
  obtain ⟨o, h1, h2⟩ := hN.kid k hk
  obtain ⟨o', hup, hm'⟩ := h2.update (w := w1.drew) kindsS Tryz.underlying84 (hO1.at h1) name (.int .i64 i)
  rw [put_kidsV] at hm'
  have hO2 := (hO1.drew).setB h1 o'
  have H2 := H.setKids hj hk hm' (fun q hq => by
    rcases mem_putk hq with rfl | hq
    · exact ⟨f, hi⟩
    · exact H.good.kids _ (look_mem hj) q hq)
  obtain ⟨w2, hw2⟩ : ∃ w2, w2 = setBlock w1.drew k o' := ⟨_, rfl⟩
  rw [← hw2] at hup hO2
  have hi2 : look (T.setN j { nd with kids := put nd.kids name i }).nodes i = some f := by unfold Tr.setN; rw [look_put, if_neg hij]; exact hi
  have hR := H2.at_.inWorld hO2
  obtain ⟨_, _, d2⟩ := hR.at0
  have hlk := hR.look i
  rw [hi2] at hlk
  dsimp only [ptrOf] at hlk
  have hF := H2.at_.node _ (look_mem hi2)
  have f2 : w2.cell? ⟨f.b, 2, none⟩ = some (.int .i64 f.places) := by rw [hO2.cellB hF.cells 2]; rfl
  have fz : w2.frozen? ⟨f.b, 2, none⟩ = false := free_at (hO2.at hF.cells) 2
  have hO3 := hO2.storeB hF.cells 2 (.int .i64 (f.places + 1))
  have H3 := H2.setCells hi2 { f with places := f.places + 1 } rfl rfl rfl hF.dat hF.form
  have hfr : Frame S (upd (upd S k o') f.b (.cells (nodeCells { f with places := f.places + 1 }) 86)) (t :: T.foot) (t :: (putT T j nd name i f).foot) w.heap.size := by
    have e : (putT T j nd name i f).foot = T.foot := (setN_foot (n' := { f with places := f.places + 1 }) hi2 rfl rfl).trans (setN_foot (n' := { nd with kids := put nd.kids name i }) hj rfl rfl)
    refine ⟨fun b x hb hnb => ?_, fun b hb => .inl (by rwa [e] at hb)⟩
    have q1 := (foot_node hj).2 k hk
    have q2 := (foot_node hi).1
    exact upd_other (upd_other hb (fun e => hnb (by rw [e]; exact List.mem_cons_of_mem _ q1)) _) (fun e => hnb (by rw [e]; exact List.mem_cons_of_mem _ q2)) _
  have HP := Lib.hid (show Done w0 S L D t T (putT T j nd name i f) w (.tuple #[]) (.returned (.tuple #[])) (w2.setCell ⟨f.b, 2, none⟩ (.int .i64 (f.places + 1))) from ⟨_, rfl, hO3, H3, hfr⟩)
  have hwr : IntKind.i64.wrap (f.places + 1) = f.places + 1 := IntWalk.i64_in _ (by omega)
  have hbm := (T.setN j { nd with kids := put nd.kids name i }).bm
  clear hO hO1 hO2 hO3 H H2 H3 hfr hN hF hR h1 h2 hm' hi2 hi hj hk hf
  go_enter Tryz.func88, Tryz.ntmps88
  go_wp2_with fail
  rw [← hw1]
  clear hw1 hw2
  have q0 : w1.drew.cell? ⟨w.heap.size, 0, none⟩ = some (.pointer (some ⟨nd.b, 0, none⟩)) := p0
  go_still_tail 8, (by kernel_rfl)
  repeat still_step
  go_wp2_with fail
  refine bodyPost_end (v := .tuple #[]) ?_ rfl HP.out
  simp [results, Tryz.results88, go_sem]
end Go.Proofs.YtamkfadammlhbaaGreatDoor
