/- grow, of a file. -/
import Derived.Test.YtamkfadammlhbaaGreatDoorTree10
import Derived.Test.YtamkfadammlhbaaGreatDoorKRec2
import Derived.Deep.RegionHeld3
namespace Go.Proofs.YtamkfadammlhbaaGreatDoor
open Go.RowKit
open Go.ChangeMaps (setBlock)
set_option linter.unusedVariables false
set_option linter.unusedSimpArgs false
set_option maxRecDepth 100000

theorem Frame.trans {S S2 S3 : Blocks} {F F2 F3 : List Nat} {n m : Nat} (h : Frame S S2 F F2 n) (k : Frame S2 S3 F2 F3 m) (hnm : n ≤ m) (hlt : ∀ b x, (b, x) ∈ S → b < n) : Frame S S3 F F3 n := by
  refine ⟨fun b x hb hnb => k.kept b x (h.kept b x hb hnb) fun h2 => ?_, fun b hb => ?_⟩
  · rcases h.fresh b h2 with h3 | h3
    · exact hnb h3
    · have := hlt b x hb; omega
  · rcases k.fresh b hb with h3 | h3
    · exact h.fresh b h3
    · right; omega
/-- Bytes that were handed in: they lie where nothing is turned, in a row of the law's, or in a block of the law's that is no tree's. -/
def Byo (w0 : World) (S : Blocks) (F : List Nat) (L : List Rw) (v : Value) (zs : List Int) : Prop := Pc L v zs ∨ By w0 v zs ∨
  ∃ b C T mk, (b, Obj.cells C T mk) ∈ S ∧ b ∉ F ∧ v = .slice (some ⟨b, 0, none⟩) zs.length zs.length ∧ C.toList = bs zs ∧ Byts zs ∧ zs.length ≤ 1000
theorem block_by {w : World} {b : Nat} {C : Array Value} {T : TypeId} {mk : Nat × Nat} {zs : List Int} (hb : w.heap[b]? = some (.cells C T mk)) (hC : C.toList = bs zs) (hz : Byts zs) (hl : zs.length ≤ 1000) : By w (.slice (some ⟨b, 0, none⟩) zs.length zs.length) zs := by
  refine ⟨.inr ⟨_, _, rfl, fun j u hj => ?_, bs_one zs⟩, hz, _, _, rfl, Nat.le_refl _, by unfold maxLen; omega⟩
  rw [Addr.add_mid, Nat.zero_add]
  unfold World.cell?
  rw [hb]
  show C[j]? = _
  rw [← Array.getElem?_toList, hC]; exact hj
theorem Byo.by {w0 w : World} {S S' : Blocks} {F : List Nat} {L : List Rw} {v : Value} {zs : List Int} (h : Byo w0 S F L v zs) (hs : ∀ b x, (b, x) ∈ S → b ∉ F → (b, x) ∈ S') (hO : Own ⟨w0, S'⟩ w L) : By w v zs := by
  rcases h with h | h | ⟨b, C, T, mk, h1, h2, rfl, h3, h4, h5⟩
  · exact h.by hO
  · exact h.later hO.below
  · exact block_by (hO.at (hs _ _ h1 h2)) h3 h4 h5
theorem Byo.mono {w0 : World} {S S' : Blocks} {F F' : List Nat} {L L' : List Rw} {v : Value} {zs : List Int} (h : Byo w0 S F L v zs) (hs : ∀ b x, (b, x) ∈ S → (b, x) ∈ S') (hF : ∀ b x, (b, x) ∈ S → b ∉ F → b ∉ F') (hL : ∀ r ∈ L, r ∈ L') : Byo w0 S' F' L' v zs := by
  rcases h with h | h | ⟨b, C, T, mk, h1, h2, h3⟩
  · exact .inl (h.mono hL)
  · exact .inr (.inl h)
  · exact .inr (.inr ⟨b, C, T, mk, hs _ _ h1, hF _ _ h1 h2, h3⟩)
theorem Byo.form {w0 : World} {S : Blocks} {F : List Nat} {L : List Rw} {v : Value} {zs : List Int} (h : Byo w0 S F L v zs) : ∃ a c, v = .slice a zs.length c := by
  rcases h with ⟨a, c, h, _⟩ | ⟨_, _, a, c, h, _⟩ | ⟨b, C, T, mk, _, _, h, _⟩
  · exact ⟨a, c, h⟩
  · exact ⟨a, c, h⟩
  · exact ⟨_, _, h⟩
def createT (T : Tr) (j : Int) (nd : Nd) (name : ByteArray) (n : Nd) : Tr := putT (({ T with next := T.next + 1 } : Tr).setN T.next n) j nd name T.next n
set_option maxHeartbeats 2000000 in
theorem growFile_any {w0 w : World} {S : Blocks} {L : List Rw} {t : Nat} {T : Tr} (hO : Own ⟨w0, S⟩ w L) (H : Tree S (Pc L) t T) {j : Int} {nd : Nd} {k : Nat} (hj : look T.nodes j = some nd) (hk : nd.k = some k) (name : ByteArray)
    (p q : ByteArray) (v : Value) (zs : List Int) (hv : Byo w0 S (t :: T.foot) L v zs) (hl : zs.length ≤ 140737488355328) (hn1 : 1 ≤ T.next) (hn2 : T.next ≤ 1000000000) :
    Calls Tryz.prog 66 #[.pointer (some ⟨t, 0, none⟩), .agg #[.pointer (some ⟨nd.b, 0, none⟩), .string name], .agg (opL 2 p q v).toArray] w
      (DoL w0 S L t T w (fun T' => ∃ n : Nd, n.er = ⟨false, [], zs, 0⟩ ∧ T' = createT T j nd name n) (.tuple #[])) := by
  have hcl0 := fun (w' : World) (S' : Blocks) (hs : ∀ b x, (b, x) ∈ S → b ∉ t :: T.foot → (b, x) ∈ S') (h : Own ⟨w0, S'⟩ w' L) => clone_any v zs w' (hv.by hs h) hl
  obtain ⟨va, vc, rfl⟩ := hv.form
  obtain ⟨vn, hvn⟩ : ∃ vn, vn = zs.length := ⟨_, rfl⟩
  rw [← hvn] at hcl0 ⊢
  have hO2 := (hO.newB (.cells #[.pointer (some ⟨nd.b, 0, none⟩), .string name] 115)).newB (.cells #[.int .i64 2, .string p, .string q, .slice va vn vc] 38)
  rw [show (w.alloc (.cells #[.pointer (some ⟨nd.b, 0, none⟩), .string name] 115)).heap.size = w.heap.size + 1 by simp] at hO2
  obtain ⟨w2, hw2⟩ : ∃ w2, w2 = (w.alloc (.cells #[.pointer (some ⟨nd.b, 0, none⟩), .string name] 115)).alloc (.cells #[.int .i64 2, .string p, .string q, .slice va vn vc] 38) := ⟨_, rfl⟩
  rw [← hw2] at hO2
  have hsz2 : w2.heap.size = w.heap.size + 2 := by rw [hw2]; simp
  have hlow : ∀ b ∈ t :: T.foot, b < w.heap.size := fun b hb => by
    obtain ⟨x, hx⟩ := kept_in H.at_ b hb
    exact (hO.atLt hx).2
  have H2 := H.mono (D2 := Pc L) (S2 := (w.heap.size + 1, .cells #[.int .i64 2, .string p, .string q, .slice va vn vc] 38) :: (w.heap.size, .cells #[.pointer (some ⟨nd.b, 0, none⟩), .string name] 115) :: S) (fun b x _ hx => List.mem_cons_of_mem _ (List.mem_cons_of_mem _ hx)) (fun _ _ h => h)
  have ht := hlow t (List.mem_cons_self ..)
  -- the next number
  have c1 : w2.cell? ⟨t, 1, none⟩ = some (.int .i64 T.next) := (H2.at_.inWorld hO2).at0.2.1
  have fz1 : w2.frozen? ⟨t, 1, none⟩ = false := free_at (hO2.at H2.at_.cells) 1
  have k0 : w2.cell? ⟨w.heap.size + 1, 0, none⟩ = some (.int .i64 2) := by rw [hO2.cellB (List.mem_cons_self ..)]; rfl
  have hO3 := hO2.storeB H2.at_.cells 1 (.int .i64 (T.next + 1))
  have H3 := H2.setNext (T.next + 1) (by omega)
  have m0 : (w.heap.size + 1, Obj.cells #[.int .i64 2, .string p, .string q, .slice va vn vc] 38) ∈ upd ((w.heap.size + 1, .cells #[.int .i64 2, .string p, .string q, .slice va vn vc] 38) :: (w.heap.size, .cells #[.pointer (some ⟨nd.b, 0, none⟩), .string name] 115) :: S) t (.cells (treeCells { T with next := T.next + 1 }) 75) := upd_other (List.mem_cons_self ..) (by omega) _
  have m1 : (w.heap.size, Obj.cells #[.pointer (some ⟨nd.b, 0, none⟩), .string name] 115) ∈ upd ((w.heap.size + 1, .cells #[.int .i64 2, .string p, .string q, .slice va vn vc] 38) :: (w.heap.size, .cells #[.pointer (some ⟨nd.b, 0, none⟩), .string name] 115) :: S) t (.cells (treeCells { T with next := T.next + 1 }) 75) := upd_other (List.mem_cons_of_mem _ (List.mem_cons_self ..)) (by omega) _
  have hkeep3 : ∀ b x, (b, x) ∈ S → b ∉ t :: T.foot → (b, x) ∈ upd ((w.heap.size + 1, .cells #[.int .i64 2, .string p, .string q, .slice va vn vc] 38) :: (w.heap.size, .cells #[.pointer (some ⟨nd.b, 0, none⟩), .string name] 115) :: S) t (.cells (treeCells { T with next := T.next + 1 }) 75) := fun b x hb hnb => upd_other (List.mem_cons_of_mem _ (List.mem_cons_of_mem _ hb)) (fun e => hnb (e ▸ List.mem_cons_self ..)) _
  obtain ⟨w3, hw3⟩ : ∃ w3, w3 = w2.setCell ⟨t, 1, none⟩ (.int .i64 (T.next + 1)) := ⟨_, rfl⟩
  change Own ⟨w0, upd _ t (.cells (treeCells { T with next := T.next + 1 }) 75)⟩ _ L at hO3
  rw [← hw3] at hO3
  have hsz3 : w3.heap.size = w.heap.size + 2 := by rw [hw3, ← hsz2]; simp
  generalize upd ((w.heap.size + 1, Obj.cells #[.int .i64 2, .string p, .string q, .slice va vn vc] 38) :: (w.heap.size, Obj.cells #[.pointer (some ⟨nd.b, 0, none⟩), .string name] 115) :: S) t (.cells (treeCells { T with next := T.next + 1 }) 75) = S3 at *
  -- the new file
  have hcl := hcl0 _ _ hkeep3 hO3.drew
  have hne : j ≠ T.next := fun e => by have := (H.good.low _ (look_mem hj)).2; simp at this; omega
  have hnk : T.next ∉ T.nodes.map (·.1) := fun hm => by
    obtain ⟨v, hv⟩ := look_some_of_key hm
    rw [fresh_none H.good] at hv; cases hv
  have hbmlt : T.bm < w.heap.size := hlow _ (List.mem_cons_of_mem _ (List.mem_cons_self ..))
  have hlow0 : ∀ b x, (b, x) ∈ S → b < w.heap.size := fun b x hb => (hO.atLt hb).2
  have hgen : ∀ (w7 : World) (a7 : Option Addr) (c7 : Nat), Own w3.drew w7 [rowU (.slice a7 zs.length c7) zs] → Byts zs →
      ∃ W7, (Instr.mapUpdate 73 (.map (some T.bm)) (.int .i64 T.next) (.pointer (some ⟨w7.heap.size, 0, none⟩))).run Tryz.prog (w7.alloc (.cells #[.map none, .slice a7 zs.length c7, .int .i64 0] 86)) = .ok () W7 ∧
        (w7.cell? ⟨t, 2, none⟩ = some (.map (some T.bm)) ∧ w7.cell? ⟨w.heap.size + 1, 3, none⟩ = some (.slice va vn vc)) ∧
        ((w7.alloc (.cells #[.map none, .slice a7 zs.length c7, .int .i64 0] 86)).cell? ⟨t, 2, none⟩ = some (.map (some T.bm)) ∧ (w7.alloc (.cells #[.map none, .slice a7 zs.length c7, .int .i64 0] 86)).cell? ⟨w.heap.size + 1, 3, none⟩ = some (.slice va vn vc)) ∧
        (W7.cell? ⟨t, 2, none⟩ = some (.map (some T.bm)) ∧ W7.cell? ⟨w.heap.size + 1, 3, none⟩ = some (.slice va vn vc)) ∧
        W7.cell? ⟨w.heap.size, 0, none⟩ = some (.pointer (some ⟨nd.b, 0, none⟩)) ∧ W7.cell? ⟨w.heap.size, 1, none⟩ = some (.string name) ∧
        Calls Tryz.prog 88 #[.pointer (some ⟨t, 0, none⟩), .agg #[.pointer (some ⟨nd.b, 0, none⟩), .string name], .int .i64 T.next] W7 (fun e w' => e = .returned (.tuple #[]) ∧ DoL w0 S L t T w (fun T' => ∃ n : Nd, n.er = ⟨false, [], zs, 0⟩ ∧ T' = createT T j nd name n) (.tuple #[]) (.returned (.tuple #[])) w') := by
    intro w7 a7 c7 h7 hz
    have g7 := hO3.drew.join h7
    have hpc : Pc ([rowU (.slice a7 zs.length c7) zs] ++ L) (.slice a7 zs.length c7) zs := Pc.all g7 hz
    have H37 := H3.mono (D2 := Pc ([rowU (.slice a7 zs.length c7) zs] ++ L)) (fun b x _ hx => hx) (fun v zs h => h.mono fun r hr => List.mem_append_right _ hr)
    have g8 := g7.newB (.cells #[.map none, .slice a7 zs.length c7, .int .i64 0] 86)
    obtain ⟨o1, x1, x2⟩ := H37.at_.map
    have x1' := List.mem_cons_of_mem (w7.heap.size, Obj.cells #[.map none, .slice a7 zs.length c7, .int .i64 0] 86) x1
    have hsz7 : w.heap.size + 2 ≤ w7.heap.size := by have := h7.below.size; rw [← hsz3]; exact this
    obtain ⟨o2, hup1, x3⟩ := x2.update kindsI Tryz.underlying73 (g8.at x1') T.next (.pointer (some ⟨w7.heap.size, 0, none⟩))
    have g9 := g8.setB x1' o2
    have hkeep5 : ∀ b x, (b, x) ∈ S3 → b ≠ T.bm → (b, x) ∈ upd ((w7.heap.size, Obj.cells #[.map none, .slice a7 zs.length c7, .int .i64 0] 86) :: S3) T.bm o2 := fun b x hb hne => upd_other (List.mem_cons_of_mem _ hb) hne _
    have H9 := H37.addN (i := T.next) (n := ⟨w7.heap.size, none, [], .slice a7 zs.length c7, zs, 0⟩) (N := w7.heap.size) (fresh_none H.good) hn1 (by show T.next < T.next + 1; omega) x3 hkeep5 (upd_same x1' o2) ⟨upd_other (List.mem_cons_self ..) (by show w7.heap.size ≠ T.bm; omega) _, (fun k2 hk2 => by cases hk2), (fun _ => rfl), hpc, ⟨a7, c7, rfl⟩⟩
      (fun b hb => by have := hlow b hb; omega) (fun b hb => by
        have : b ∈ [w7.heap.size] := hb
        simp at this; omega) (by show ([w7.heap.size] : List Nat).Nodup; simp) rfl
    have hj9 : look (({ T with next := T.next + 1 } : Tr).setN T.next ⟨w7.heap.size, none, [], .slice a7 zs.length c7, zs, 0⟩).nodes j = some nd := by unfold Tr.setN; rw [look_put, if_neg hne]; exact hj
    have hi9 : look (({ T with next := T.next + 1 } : Tr).setN T.next ⟨w7.heap.size, none, [], .slice a7 zs.length c7, zs, 0⟩).nodes T.next = some ⟨w7.heap.size, none, [], .slice a7 zs.length c7, zs, 0⟩ := by unfold Tr.setN; rw [look_put, if_pos rfl]
    have hput := put_any g9 H9 hj9 hk name hi9 rfl (Int.le_refl 0) (by show (0 : Int) ≤ 1000000000; decide)
    have e : (({ T with next := T.next + 1 } : Tr).setN T.next ⟨w7.heap.size, none, [], .slice a7 zs.length c7, zs, 0⟩).foot = T.foot ++ [w7.heap.size] := foot_put (T := { T with next := T.next + 1 }) hnk
    have hfr : Frame S (upd ((w7.heap.size, Obj.cells #[.map none, .slice a7 zs.length c7, .int .i64 0] 86) :: S3) T.bm o2) (t :: T.foot) (t :: (({ T with next := T.next + 1 } : Tr).setN T.next ⟨w7.heap.size, none, [], .slice a7 zs.length c7, zs, 0⟩).foot) w.heap.size := by
      refine ⟨fun b x hb hnb => hkeep5 b x (hkeep3 b x hb hnb) (fun e => hnb (e ▸ List.mem_cons_of_mem _ (List.mem_cons_self ..))), fun b hb => ?_⟩
      rw [e, ← List.cons_append] at hb
      rcases List.mem_append.1 hb with hb | hb
      · exact .inl hb
      · simp at hb; right; omega
    have m0' := hkeep5 _ _ m0 (by omega)
    have m1' := hkeep5 _ _ m1 (by omega)
    refine ⟨_, hup1, ⟨(H37.at_.inWorld g7).at0.2.2, by rw [g7.cellB m0]; rfl⟩, ⟨by rw [g8.cellB (List.mem_cons_of_mem _ H37.at_.cells)]; rfl, by rw [g8.cellB (List.mem_cons_of_mem _ m0)]; rfl⟩, ⟨(H9.at_.inWorld g9).at0.2.2, by rw [g9.cellB m0']; rfl⟩, by rw [g9.cellB m1']; rfl, by rw [g9.cellB m1']; rfl, hput.mono ?_⟩
    rintro e w' ⟨S', rfl, k1, k2, k3⟩
    refine ⟨rfl, S', _, _, rfl, k1, fun r hr => List.mem_append_right _ hr, k2, hfr.trans k3 ?_ hlow0, _, rfl, rfl⟩
    have := g9.size
    have h8 := g8.size
    rw [show (setBlock (w7.alloc (.cells #[.map none, .slice a7 zs.length c7, .int .i64 0] 86)) T.bm o2).heap.size = w7.heap.size + 1 by simp [setBlock]]
    omega
  have hz : Byts zs := (hv.by (fun _ _ h _ => h) hO).2.1
  have k3 : w3.cell? ⟨w.heap.size + 1, 0, none⟩ = some (.int .i64 2) := by rw [hO3.cellB m0]; rfl
  have hs3 : w3.drew.cell? ⟨t, 2, none⟩ = some (.map (some T.bm)) ∧ w3.drew.cell? ⟨w.heap.size + 1, 3, none⟩ = some (.slice va vn vc) := ⟨(H3.at_.inWorld hO3.drew).at0.2.2, by rw [hO3.drew.cellB m0]; rfl⟩
  rw [hw3, hw2] at k3
  rw [hw2] at c1 fz1 k0
  have hwr : IntKind.i64.wrap (T.next + 1) = T.next + 1 := IntWalk.i64_in _ (by omega)
  clear hO hO2 hO3 H H2 H3 hlow hlow0 hkeep3 m0 m1 hj hk hne hnk hv hl hcl0 hsz2 hsz3 ht hbmlt hvn
  go_enter Tryz.func66, Tryz.ntmps66
  go_wp2_with fail
  rw [← hw2, ← hw3]
  clear hw2 hw3 k0 k3 c1 fz1
  go_region_held3 (fun w' : World => w'.cell? ⟨t, 2, none⟩ = some (.map (some T.bm)) ∧ w'.cell? ⟨w.heap.size + 1, 3, none⟩ = some (.slice va vn vc)) (first | exact hs3 | exact s2 | exact s1 | exact s3) (first | (go_at_call 59; refine hcl.mono ?_; rintro e w7 ⟨v7, rfl, h7⟩; obtain ⟨a7, c7, rfl, _, _⟩ := Own.sized (h := (show Own w3.drew w7 (⟨5, 1, v7, zs.length, bs zs⟩ :: []) from h7)); obtain ⟨W7, hup7, s1, s2, s3, p0, p1, hput7⟩ := hgen w7 a7 c7 h7 hz))
  trace_state
  all_goals go_wp2_with (go_at_call 88; refine hput7.mono ?_; rintro e w8 ⟨rfl, hD⟩)
  all_goals refine bodyPost_end (v := .tuple #[]) ?_ rfl hD
  all_goals simp [results, Tryz.results66, go_sem]
end Go.Proofs.YtamkfadammlhbaaGreatDoor
