/- Texts one behind the other, each in a section of its own: what calls make of memory, step by step. -/
import Derived.Test.YtkhnkidggcjfeaaGreatDoorPackNeedHits5
import Derived.Deep.RegionHeld3
set_option linter.unusedVariables false
set_option linter.unusedSimpArgs false
set_option maxRecDepth 100000
section
namespace Go.Proofs.YtkhnkidggcjfeaaGreatDoor
open Go.RowKit
open Go.ChangeMaps (setBlock)
theorem Frame.trans {S S2 S3 : Blocks} {F F2 F3 : List Nat} {n m : Nat} (h : Frame S S2 F F2 n) (k : Frame S2 S3 F2 F3 m) (hnm : n ≤ m) (hlt : ∀ b x, (b, x) ∈ S → b < n) : Frame S S3 F F3 n := by
  refine ⟨fun b x hb hnb => k.kept b x (h.kept b x hb hnb) fun h2 => ?_, fun b hb => ?_⟩
  · rcases h.fresh b h2 with h3 | h3
    · exact hnb h3
    · have := hlt b x hb; omega
  · rcases k.fresh b hb with h3 | h3
    · exact h.fresh b h3
    · right; omega
def Byo (w0 : World) (S : Blocks) (F : List Nat) (L : List Rw) (v : Value) (zs : List Int) : Prop := Pc L v zs ∨ By w0 v zs ∨
  ∃ b C T mk, (b, Obj.cells C T mk) ∈ S ∧ b ∉ F ∧ v = .slice (some ⟨b, 0, none⟩) zs.length zs.length ∧ C.toList = bs zs ∧ Byts zs ∧ zs.length ≤ 1000
theorem block_by {w : World} {b : Nat} {C : Array Value} {T : TypeId} {mk : Nat × Nat} {zs : List Int} (hb : w.heap[b]? = some (.cells C T mk)) (hC : C.toList = bs zs) (hz : Byts zs) (hl : zs.length ≤ 1000) : By w (.slice (some ⟨b, 0, none⟩) zs.length zs.length) zs := by
  refine ⟨.inr ⟨_, _, rfl, fun j u hj => ?_, bs_one zs⟩, hz, _, _, rfl, Nat.le_refl _, by unfold maxLen; omega⟩
  rw [Addr.add_mid, Nat.zero_add]
  unfold World.cell?
  rw [hb]
  show C[j]? = _
  rw [← Array.getElem?_toList, hC]; exact hj
theorem Byo.by {w0 w : World} {S S' : Blocks} {F : List Nat} {L : List Rw} {v : Value} {zs : List Int} (h : Byo w0 S F L v zs) (hs : ∀ b x, (b, x) ∈ S → b ∉ F → (b, x) ∈ S') (hO : Own ⟨w0, S'⟩ w L) : By w v zs := by
  rcases h with h | h | ⟨b, C, T, mk, h1, h2, rfl, h3, h4, h5⟩
  · exact h.by hO
  · exact h.later hO.below
  · exact block_by (hO.at (hs _ _ h1 h2)) h3 h4 h5
theorem Byo.mono {w0 : World} {S S' : Blocks} {F F' : List Nat} {L L' : List Rw} {v : Value} {zs : List Int} (h : Byo w0 S F L v zs) (hs : ∀ b x, (b, x) ∈ S → (b, x) ∈ S') (hF : ∀ b x, (b, x) ∈ S → b ∉ F → b ∉ F') (hL : ∀ r ∈ L, r ∈ L') : Byo w0 S' F' L' v zs := by
  rcases h with h | h | ⟨b, C, T, mk, h1, h2, h3⟩
  · exact .inl (h.mono hL)
  · exact .inr (.inl h)
  · exact .inr (.inr ⟨b, C, T, mk, hs _ _ h1, hF _ _ h1 h2, h3⟩)
theorem Byo.form {w0 : World} {S : Blocks} {F : List Nat} {L : List Rw} {v : Value} {zs : List Int} (h : Byo w0 S F L v zs) : ∃ a c, v = .slice a zs.length c := by
  rcases h with ⟨a, c, h, _⟩ | ⟨_, _, a, c, h, _⟩ | ⟨b, C, T, mk, _, _, h, _⟩
  · exact ⟨a, c, h⟩
  · exact ⟨a, c, h⟩
  · exact ⟨_, _, h⟩
def createT (T : Tr) (j : Int) (nd : Nd) (name : ByteArray) (n : Nd) : Tr := putT (({ T with next := T.next + 1 } : Tr).setN T.next n) j nd name T.next n
set_option maxHeartbeats 2000000 in
theorem growFile_any {w0 w : World} {S : Blocks} {L : List Rw} {t : Nat} {T : Tr} (hO : Own ⟨w0, S⟩ w L) (H : Tree S (Pc L) t T) {j : Int} {nd : Nd} {k : Nat} (hj : look T.nodes j = some nd) (hk : nd.k = some k) (name : ByteArray)
    (p q : ByteArray) (v : Value) (zs : List Int) (hv : Byo w0 S (t :: T.foot) L v zs) (hl : zs.length ≤ 140737488355328) (hn1 : 2 ≤ T.next) (hn2 : T.next ≤ 1000000000) :
    Calls Tryz.prog 94 #[.pointer (some ⟨t, 0, none⟩), .agg #[.pointer (some ⟨nd.b, 0, none⟩), .string name], .agg (opL 2 p q v).toArray] w
      (DoL w0 S L t T w (fun T' => ∃ n : Nd, n.er = ⟨false, [], zs, 0⟩ ∧ T' = createT T j nd name n) (.tuple #[])) := by
  have hcl0 := fun (w' : World) (S' : Blocks) (hs : ∀ b x, (b, x) ∈ S → b ∉ t :: T.foot → (b, x) ∈ S') (h : Own ⟨w0, S'⟩ w' L) => clone_any v zs w' (hv.by hs h) hl
  obtain ⟨va, vc, rfl⟩ := hv.form
  obtain ⟨vn, hvn⟩ : ∃ vn, vn = zs.length := ⟨_, rfl⟩
  rw [← hvn] at hcl0 ⊢
  have hO2 := (hO.newB (.cells #[.pointer (some ⟨nd.b, 0, none⟩), .string name] 180)).newB (.cells #[.int .i64 2, .string p, .string q, .slice va vn vc] 40)
  rw [show (w.alloc (.cells #[.pointer (some ⟨nd.b, 0, none⟩), .string name] 180)).heap.size = w.heap.size + 1 by simp] at hO2
  obtain ⟨w2, hw2⟩ : ∃ w2, w2 = (w.alloc (.cells #[.pointer (some ⟨nd.b, 0, none⟩), .string name] 180)).alloc (.cells #[.int .i64 2, .string p, .string q, .slice va vn vc] 40) := ⟨_, rfl⟩
  rw [← hw2] at hO2
  have hsz2 : w2.heap.size = w.heap.size + 2 := by rw [hw2]; simp
  have hlow : ∀ b ∈ t :: T.foot, b < w.heap.size := fun b hb => by
    obtain ⟨x, hx⟩ := kept_in H.at_ b hb
    exact (hO.atLt hx).2
  have H2 := H.mono (D2 := Pc L) (S2 := (w.heap.size + 1, .cells #[.int .i64 2, .string p, .string q, .slice va vn vc] 40) :: (w.heap.size, .cells #[.pointer (some ⟨nd.b, 0, none⟩), .string name] 180) :: S) (fun b x _ hx => List.mem_cons_of_mem _ (List.mem_cons_of_mem _ hx)) (fun _ _ h => h)
  have ht := hlow t (List.mem_cons_self ..)
  -- the next number
  have c1 : w2.cell? ⟨t, 1, none⟩ = some (.int .i64 T.next) := (H2.at_.inWorld hO2).at0.2.1
  have fz1 : w2.frozen? ⟨t, 1, none⟩ = false := free_at (hO2.at H2.at_.cells) 1
  have k0 : w2.cell? ⟨w.heap.size + 1, 0, none⟩ = some (.int .i64 2) := by rw [hO2.cellB (List.mem_cons_self ..)]; rfl
  have hO3 := hO2.storeB H2.at_.cells 1 (.int .i64 (T.next + 1))
  have H3 := H2.setNext (T.next + 1) (by omega)
  have m0 : (w.heap.size + 1, Obj.cells #[.int .i64 2, .string p, .string q, .slice va vn vc] 40) ∈ upd ((w.heap.size + 1, .cells #[.int .i64 2, .string p, .string q, .slice va vn vc] 40) :: (w.heap.size, .cells #[.pointer (some ⟨nd.b, 0, none⟩), .string name] 180) :: S) t (.cells (treeCells { T with next := T.next + 1 }) 82) := upd_other (List.mem_cons_self ..) (by omega) _
  have m1 : (w.heap.size, Obj.cells #[.pointer (some ⟨nd.b, 0, none⟩), .string name] 180) ∈ upd ((w.heap.size + 1, .cells #[.int .i64 2, .string p, .string q, .slice va vn vc] 40) :: (w.heap.size, .cells #[.pointer (some ⟨nd.b, 0, none⟩), .string name] 180) :: S) t (.cells (treeCells { T with next := T.next + 1 }) 82) := upd_other (List.mem_cons_of_mem _ (List.mem_cons_self ..)) (by omega) _
  have hkeep3 : ∀ b x, (b, x) ∈ S → b ∉ t :: T.foot → (b, x) ∈ upd ((w.heap.size + 1, .cells #[.int .i64 2, .string p, .string q, .slice va vn vc] 40) :: (w.heap.size, .cells #[.pointer (some ⟨nd.b, 0, none⟩), .string name] 180) :: S) t (.cells (treeCells { T with next := T.next + 1 }) 82) := fun b x hb hnb => upd_other (List.mem_cons_of_mem _ (List.mem_cons_of_mem _ hb)) (fun e => hnb (e ▸ List.mem_cons_self ..)) _
  obtain ⟨w3, hw3⟩ : ∃ w3, w3 = w2.setCell ⟨t, 1, none⟩ (.int .i64 (T.next + 1)) := ⟨_, rfl⟩
  change Own ⟨w0, upd _ t (.cells (treeCells { T with next := T.next + 1 }) 82)⟩ _ L at hO3
  rw [← hw3] at hO3
  have hsz3 : w3.heap.size = w.heap.size + 2 := by rw [hw3, ← hsz2]; simp
  generalize upd ((w.heap.size + 1, Obj.cells #[.int .i64 2, .string p, .string q, .slice va vn vc] 40) :: (w.heap.size, Obj.cells #[.pointer (some ⟨nd.b, 0, none⟩), .string name] 180) :: S) t (.cells (treeCells { T with next := T.next + 1 }) 82) = S3 at *
  -- the new file
  have hcl := hcl0 _ _ hkeep3 hO3.drew
  have hne : j ≠ T.next := fun e => by have := (H.good.low _ (look_mem hj)).2; simp at this; omega
  have hnk : T.next ∉ T.nodes.map (·.1) := fun hm => by
    obtain ⟨v, hv⟩ := look_some_of_key hm
    rw [fresh_none H.good hn1] at hv; cases hv
  have hbmlt : T.bm < w.heap.size := hlow _ (List.mem_cons_of_mem _ (List.mem_cons_self ..))
  have hlow0 : ∀ b x, (b, x) ∈ S → b < w.heap.size := fun b x hb => (hO.atLt hb).2
  have hgen : ∀ (w7 : World) (a7 : Option Addr) (c7 : Nat), Own w3.drew w7 [rowU (.slice a7 zs.length c7) zs] → Byts zs →
      ∃ W7, (Instr.mapUpdate 80 (.map (some T.bm)) (.int .i64 T.next) (.pointer (some ⟨w7.heap.size, 0, none⟩))).run Tryz.prog (w7.alloc (.cells #[.map none, .slice a7 zs.length c7, .int .i64 0] 133)) = .ok () W7 ∧
        (w7.cell? ⟨t, 2, none⟩ = some (.map (some T.bm)) ∧ w7.cell? ⟨w.heap.size + 1, 3, none⟩ = some (.slice va vn vc)) ∧
        ((w7.alloc (.cells #[.map none, .slice a7 zs.length c7, .int .i64 0] 133)).cell? ⟨t, 2, none⟩ = some (.map (some T.bm)) ∧ (w7.alloc (.cells #[.map none, .slice a7 zs.length c7, .int .i64 0] 133)).cell? ⟨w.heap.size + 1, 3, none⟩ = some (.slice va vn vc)) ∧
        (W7.cell? ⟨t, 2, none⟩ = some (.map (some T.bm)) ∧ W7.cell? ⟨w.heap.size + 1, 3, none⟩ = some (.slice va vn vc)) ∧
        W7.cell? ⟨w.heap.size, 0, none⟩ = some (.pointer (some ⟨nd.b, 0, none⟩)) ∧ W7.cell? ⟨w.heap.size, 1, none⟩ = some (.string name) ∧
        Calls Tryz.prog 139 #[.pointer (some ⟨t, 0, none⟩), .agg #[.pointer (some ⟨nd.b, 0, none⟩), .string name], .int .i64 T.next] W7 (fun e w' => e = .returned (.tuple #[]) ∧ DoL w0 S L t T w (fun T' => ∃ n : Nd, n.er = ⟨false, [], zs, 0⟩ ∧ T' = createT T j nd name n) (.tuple #[]) (.returned (.tuple #[])) w') := by
    intro w7 a7 c7 h7 hz
    have g7 := hO3.drew.join h7
    have hpc : Pc ([rowU (.slice a7 zs.length c7) zs] ++ L) (.slice a7 zs.length c7) zs := Pc.all g7 hz
    have H37 := H3.mono (D2 := Pc ([rowU (.slice a7 zs.length c7) zs] ++ L)) (fun b x _ hx => hx) (fun v zs h => h.mono fun r hr => List.mem_append_right _ hr)
    have g8 := g7.newB (.cells #[.map none, .slice a7 zs.length c7, .int .i64 0] 133)
    obtain ⟨o1, x1, x2⟩ := H37.at_.map
    have x1' := List.mem_cons_of_mem (w7.heap.size, Obj.cells #[.map none, .slice a7 zs.length c7, .int .i64 0] 133) x1
    have hsz7 : w.heap.size + 2 ≤ w7.heap.size := by have := h7.below.size; rw [← hsz3]; exact this
    obtain ⟨o2, hup1, x3⟩ := x2.update kindsI Tryz.underlying80 (g8.at x1') T.next (.pointer (some ⟨w7.heap.size, 0, none⟩))
    have g9 := g8.setB x1' o2
    have hkeep5 : ∀ b x, (b, x) ∈ S3 → b ≠ T.bm → (b, x) ∈ upd ((w7.heap.size, Obj.cells #[.map none, .slice a7 zs.length c7, .int .i64 0] 133) :: S3) T.bm o2 := fun b x hb hne => upd_other (List.mem_cons_of_mem _ hb) hne _
    have H9 := H37.addN (i := T.next) (n := ⟨w7.heap.size, none, [], .slice a7 zs.length c7, zs, 0⟩) (N := w7.heap.size) (fresh_none H.good hn1) (by show (1 : Int) ≤ T.next; omega) (by show T.next < T.next + 1; omega) x3 hkeep5 (upd_same x1' o2) ⟨upd_other (List.mem_cons_self ..) (by show w7.heap.size ≠ T.bm; omega) _, (fun k2 hk2 => by cases hk2), (fun _ => rfl), hpc, ⟨a7, c7, rfl⟩⟩
      (fun b hb => by have := hlow b hb; omega) (fun b hb => by
        have : b ∈ [w7.heap.size] := hb
        simp at this; omega) (by show ([w7.heap.size] : List Nat).Nodup; simp) rfl
    have hj9 : look (({ T with next := T.next + 1 } : Tr).setN T.next ⟨w7.heap.size, none, [], .slice a7 zs.length c7, zs, 0⟩).nodes j = some nd := by unfold Tr.setN; rw [look_put, if_neg hne]; exact hj
    have hi9 : look (({ T with next := T.next + 1 } : Tr).setN T.next ⟨w7.heap.size, none, [], .slice a7 zs.length c7, zs, 0⟩).nodes T.next = some ⟨w7.heap.size, none, [], .slice a7 zs.length c7, zs, 0⟩ := by unfold Tr.setN; rw [look_put, if_pos rfl]
    have hput := put_any g9 H9 hj9 hk name hi9 rfl (Int.le_refl 0) (by show (0 : Int) ≤ 1000000000; decide)
    have e : (({ T with next := T.next + 1 } : Tr).setN T.next ⟨w7.heap.size, none, [], .slice a7 zs.length c7, zs, 0⟩).foot = T.foot ++ [w7.heap.size] := foot_put (T := { T with next := T.next + 1 }) hnk
    have hfr : Frame S (upd ((w7.heap.size, Obj.cells #[.map none, .slice a7 zs.length c7, .int .i64 0] 133) :: S3) T.bm o2) (t :: T.foot) (t :: (({ T with next := T.next + 1 } : Tr).setN T.next ⟨w7.heap.size, none, [], .slice a7 zs.length c7, zs, 0⟩).foot) w.heap.size := by
      refine ⟨fun b x hb hnb => hkeep5 b x (hkeep3 b x hb hnb) (fun e => hnb (e ▸ List.mem_cons_of_mem _ (List.mem_cons_self ..))), fun b hb => ?_⟩
      rw [e, ← List.cons_append] at hb
      rcases List.mem_append.1 hb with hb | hb
      · exact .inl hb
      · simp at hb; right; omega
    have m0' := hkeep5 _ _ m0 (by omega)
    have m1' := hkeep5 _ _ m1 (by omega)
    refine ⟨_, hup1, ⟨(H37.at_.inWorld g7).at0.2.2, by rw [g7.cellB m0]; rfl⟩, ⟨by rw [g8.cellB (List.mem_cons_of_mem _ H37.at_.cells)]; rfl, by rw [g8.cellB (List.mem_cons_of_mem _ m0)]; rfl⟩, ⟨(H9.at_.inWorld g9).at0.2.2, by rw [g9.cellB m0']; rfl⟩, by rw [g9.cellB m1']; rfl, by rw [g9.cellB m1']; rfl, hput.mono ?_⟩
    rintro e w' ⟨S', rfl, k1, k2, k3⟩
    refine ⟨rfl, S', _, _, rfl, k1, fun r hr => List.mem_append_right _ hr, k2, hfr.trans k3 ?_ hlow0, _, rfl, rfl⟩
    have := g9.size
    have h8 := g8.size
    rw [show (setBlock (w7.alloc (.cells #[.map none, .slice a7 zs.length c7, .int .i64 0] 133)) T.bm o2).heap.size = w7.heap.size + 1 by simp [setBlock]]
    omega
  have hz : Byts zs := (hv.by (fun _ _ h _ => h) hO).2.1
  have k3 : w3.cell? ⟨w.heap.size + 1, 0, none⟩ = some (.int .i64 2) := by rw [hO3.cellB m0]; rfl
  have hs3 : w3.drew.cell? ⟨t, 2, none⟩ = some (.map (some T.bm)) ∧ w3.drew.cell? ⟨w.heap.size + 1, 3, none⟩ = some (.slice va vn vc) := ⟨(H3.at_.inWorld hO3.drew).at0.2.2, by rw [hO3.drew.cellB m0]; rfl⟩
  rw [hw3, hw2] at k3
  rw [hw2] at c1 fz1 k0
  have hwr : IntKind.i64.wrap (T.next + 1) = T.next + 1 := IntWalk.i64_in _ (by omega)
  clear hO hO2 hO3 H H2 H3 hlow hlow0 hkeep3 m0 m1 hj hk hne hnk hv hl hcl0 hsz2 hsz3 ht hbmlt hvn
  go_enter Tryz.func94, Tryz.ntmps94
  go_wp2_with fail
  rw [← hw2, ← hw3]
  clear hw2 hw3 k0 k3 c1 fz1
  go_region_held3 (fun w' : World => w'.cell? ⟨t, 2, none⟩ = some (.map (some T.bm)) ∧ w'.cell? ⟨w.heap.size + 1, 3, none⟩ = some (.slice va vn vc)) (first | exact hs3 | exact s2 | exact s1 | exact s3) (first | (go_at_call 103; refine hcl.mono ?_; rintro e w7 ⟨v7, rfl, h7⟩; obtain ⟨a7, c7, rfl, _, _⟩ := Own.sized (h := (show Own w3.drew w7 (⟨5, 1, v7, zs.length, bs zs⟩ :: []) from h7)); obtain ⟨W7, hup7, s1, s2, s3, p0, p1, hput7⟩ := hgen w7 a7 c7 h7 hz))
  trace_state
  all_goals go_wp2_with (go_at_call 139; refine hput7.mono ?_; rintro e w8 ⟨rfl, hD⟩)
  all_goals refine bodyPost_end (v := .tuple #[]) ?_ rfl hD
  all_goals simp [results, Tryz.results94, go_sem]
end Go.Proofs.YtkhnkidggcjfeaaGreatDoor
end
section
namespace Go.Proofs.YtkhnkidggcjfeaaGreatDoor
open Go.RowKit
open Go.ChangeMaps (setBlock)
theorem DoL.same {w0 w w1 : World} {S : Blocks} {L : List Rw} {t : Nat} {T : Tr} (r : Value) (hO : Own ⟨w0, S⟩ w1 L) (H : Tree S (Pc L) t T) : DoL w0 S L t T w (fun T2 => T2 = T) r (.returned r) w1 := ⟨S, L, T, rfl, hO, fun _ h => h, H, Frame.refl _ _ _, rfl⟩
set_option maxHeartbeats 1000000 in
theorem link_twice {w0 w : World} {S : Blocks} {L : List Rw} {t : Nat} {T : Tr} (hO : Own ⟨w0, S⟩ w L) (H : Tree S (Pc L) t T) {j : Int} {nd : Nd} {k : Nat} (hj : look T.nodes j = some nd) (hk : nd.k = some k) (name : ByteArray) (i : Int) {x : Int} (hx : look nd.kids name = some x) :
    Calls Tryz.prog 141 #[.pointer (some ⟨t, 0, none⟩), .agg #[.pointer (some ⟨nd.b, 0, none⟩), .string name], .int .i64 i] w (DoL w0 S L t T w (fun T2 => T2 = T) (.int .i64 9)) := by
  have hO1 := (hO.alloc (.cells #[.pointer (some ⟨nd.b, 0, none⟩), .string name] 180)).drew
  obtain ⟨w1, hw1⟩ : ∃ w1, w1 = w.alloc (.cells #[.pointer (some ⟨nd.b, 0, none⟩), .string name] 180) := ⟨_, rfl⟩
  have p0 : w1.drew.cell? ⟨w.heap.size, 0, none⟩ = some (.pointer (some ⟨nd.b, 0, none⟩)) := by rw [hw1]; show (w.alloc _).cell? _ = _; rw [World.cell?_alloc_new]; rfl
  have p1 : w1.drew.cell? ⟨w.heap.size, 1, none⟩ = some (.string name) := by rw [hw1]; show (w.alloc _).cell? _ = _; rw [World.cell?_alloc_new]; rfl
  rw [← hw1] at hO1
  have hNW := (H.at_.inWorld hO1).node _ (look_mem hj)
  obtain ⟨c0, _, _⟩ := hNW.at0
  rw [hk] at c0
  have hl := hNW.look hk name
  rw [hx] at hl
  dsimp only [Option.getD_some, Option.isSome_some] at hl
  have HP := Lib.hid (show DoL w0 S L t T w (fun T2 => T2 = T) (.int .i64 9) (.returned (.int .i64 9)) w1.drew from DoL.same _ hO1 H)
  clear hO hO1 H hj hk hx hNW
  go_enter Tryz.func141, Tryz.ntmps141
  go_wp2_with fail
  rw [← hw1]
  clear hw1
  go_region
  all_goals go_wp2_with fail
  all_goals go_ret
  all_goals exact HP.out
set_option maxHeartbeats 1000000 in
theorem link_ok {w0 w : World} {S : Blocks} {L : List Rw} {t : Nat} {T : Tr} (hO : Own ⟨w0, S⟩ w L) (H : Tree S (Pc L) t T) {j : Int} {nd : Nd} {k : Nat} (hj : look T.nodes j = some nd) (hk : nd.k = some k) (name : ByteArray) (hx : look nd.kids name = none)
    {i : Int} {f : Nd} (hi : look T.nodes i = some f) (hf : f.k = none) (hp0 : 0 ≤ f.places) (hp : f.places ≤ 1000000000) :
    Calls Tryz.prog 141 #[.pointer (some ⟨t, 0, none⟩), .agg #[.pointer (some ⟨nd.b, 0, none⟩), .string name], .int .i64 i] w (DoL w0 S L t T w (fun T2 => T2 = putT T j nd name i f) (.int .i64 0)) := by
  have hO1 := (hO.alloc (.cells #[.pointer (some ⟨nd.b, 0, none⟩), .string name] 180)).drew
  obtain ⟨w1, hw1⟩ : ∃ w1, w1 = w.alloc (.cells #[.pointer (some ⟨nd.b, 0, none⟩), .string name] 180) := ⟨_, rfl⟩
  have p0 : w1.drew.cell? ⟨w.heap.size, 0, none⟩ = some (.pointer (some ⟨nd.b, 0, none⟩)) := by rw [hw1]; show (w.alloc _).cell? _ = _; rw [World.cell?_alloc_new]; rfl
  have p1 : w1.drew.cell? ⟨w.heap.size, 1, none⟩ = some (.string name) := by rw [hw1]; show (w.alloc _).cell? _ = _; rw [World.cell?_alloc_new]; rfl
  have hle : w.heap.size ≤ w1.drew.heap.size := by rw [hw1]; show _ ≤ (w.alloc _).heap.size; simp
  rw [← hw1] at hO1
  have hNW := (H.at_.inWorld hO1).node _ (look_mem hj)
  obtain ⟨c0, _, _⟩ := hNW.at0
  rw [hk] at c0
  have hl := hNW.look hk name
  rw [hx] at hl
  dsimp only [Option.getD_none, Option.isSome_none] at hl
  have hput : Calls Tryz.prog 139 #[.pointer (some ⟨t, 0, none⟩), .agg #[.pointer (some ⟨nd.b, 0, none⟩), .string name], .int .i64 i] w1.drew (fun e w' => e = .returned (.tuple #[]) ∧ DoL w0 S L t T w (fun T2 => T2 = putT T j nd name i f) (.int .i64 0) (.returned (.int .i64 0)) w') :=
    (put_any hO1 H hj hk name hi hf hp0 hp).mono fun e w' h => by
      obtain ⟨S', rfl, h2, h3, h4⟩ := h
      exact ⟨rfl, S', L, _, rfl, h2, fun _ h => h, h3, (Frame.refl S _ _).trans h4 hle (fun b x hb => (hO.atLt hb).2), rfl⟩
  clear hO hO1 H hj hk hx hNW hle hi hf
  go_enter Tryz.func141, Tryz.ntmps141
  go_wp2_with fail
  rw [← hw1]
  clear hw1
  go_region
  all_goals go_wp2_with (go_at_call 139; refine hput.mono ?_; rintro e w8 ⟨rfl, hD⟩)
  all_goals go_ret
  all_goals exact hD
end Go.Proofs.YtkhnkidggcjfeaaGreatDoor
end
section
namespace Go.Proofs.YtkhnkidggcjfeaaGreatDoor
open Go.RowKit
open Go.ChangeMaps (setBlock)
theorem look_del_ne {α β : Type} [DecidableEq α] {m : List (α × β)} {a b : α} (h : b ≠ a) : look (del m a) b = look m b := by
  induction m with
  | nil => rfl
  | cons p r ih =>
    unfold del
    split
    · rename_i e
      have : ¬ p.1 = b := fun e2 => h (e2.symm.trans e)
      rw [look, if_neg this]
    · rw [look, look, ih]
def putTx (T : Tr) (j : Int) (name : ByteArray) (i : Int) : Tr := match look T.nodes j, look T.nodes i with
  | some nd, some f => putT T j nd name i f
  | _, _ => T
def takeTx (T : Tr) (j : Int) (name : ByteArray) : Tr := match look T.nodes j with
  | none => T
  | some nd => match look nd.kids name with
    | none => T
    | some i => match look T.nodes i with
      | none => T
      | some f => takeT T j nd name i f
theorem putTx_of {T : Tr} {j : Int} {nd : Nd} (name : ByteArray) {i : Int} {f : Nd} (hj : look T.nodes j = some nd) (hi : look T.nodes i = some f) : putTx T j name i = putT T j nd name i f := by unfold putTx; rw [hj, hi]
theorem takeTx_of {T : Tr} {j : Int} {nd : Nd} {name : ByteArray} {i : Int} {f : Nd} (hj : look T.nodes j = some nd) (hs : look nd.kids name = some i) (hi : look T.nodes i = some f) : takeTx T j name = takeT T j nd name i f := by
  unfold takeTx; simp only [hj, hs, hi]
theorem look_takeT {T : Tr} {j : Int} {nd : Nd} {name : ByteArray} {i : Int} {f : Nd} (x : Int) : look (takeT T j nd name i f).nodes x = if x = j then some { nd with kids := del nd.kids name } else if x = i then some { f with places := f.places - 1 } else look T.nodes x := by
  unfold takeT Tr.setN
  rw [look_put, look_put]
structure At (T : Tr) (j : Int) (nd : Nd) (k : Nat) : Prop where
  there : look T.nodes j = some nd
  dir : nd.k = some k
structure Fl (T : Tr) (i : Int) (f : Nd) : Prop where
  there : look T.nodes i = some f
  file : f.k = none
  low : 0 ≤ f.places
  high : f.places ≤ 1000000000
theorem At.ne {T : Tr} {j i : Int} {nd f : Nd} {k : Nat} (h : At T j nd k) (g : Fl T i f) : j ≠ i := fun e => by
  have h1 := h.there
  rw [e, g.there] at h1
  injection h1 with h1
  have := h.dir
  rw [← h1, g.file] at this; cases this
theorem At.behind {T : Tr} {j i : Int} {nd f : Nd} {k : Nat} {name : ByteArray} {j' : Int} {nd' : Nd} {k' : Nat} (h : At T j nd k) (g : Fl T i f) (h' : At T j' nd' k') : ∃ nd2, At (takeT T j nd name i f) j' nd2 k' ∧ nd2.b = nd'.b ∧ (j' ≠ j → nd2 = nd') ∧ (j' = j → nd2.kids = del nd'.kids name) := by
  by_cases e : j' = j
  · have e2 : nd' = nd := by have h1 := h'.there; rw [e, h.there] at h1; injection h1 with h1; exact h1.symm
    refine ⟨{ nd with kids := del nd.kids name }, ⟨by rw [look_takeT, if_pos e], by rw [← e2]; exact h'.dir⟩, by rw [e2], fun h => absurd e h, fun _ => by rw [e2]⟩
  · exact ⟨nd', ⟨by rw [look_takeT, if_neg e, if_neg (h'.ne g)]; exact h'.there, h'.dir⟩, rfl, fun _ => rfl, fun h => absurd h e⟩
theorem Fl.behind {T : Tr} {j i : Int} {nd f : Nd} {k : Nat} {name : ByteArray} {i' : Int} {f' : Nd} (h : At T j nd k) (g : Fl T i f) (g' : Fl T i' f') (hp : 1 ≤ f.places ∨ i' ≠ i) : ∃ f2, Fl (takeT T j nd name i f) i' f2 := by
  by_cases e : i' = i
  · have hp1 : 1 ≤ f.places := hp.resolve_right fun h => h e
    exact ⟨{ f with places := f.places - 1 }, ⟨by rw [look_takeT, if_neg (e ▸ (h.ne g).symm), if_pos e], g.file, by show 0 ≤ f.places - 1; omega, by show f.places - 1 ≤ _; have := g.high; omega⟩⟩
  · exact ⟨f', ⟨by rw [look_takeT, if_neg (h.ne g').symm, if_neg e]; exact g'.there, g'.file, g'.low, g'.high⟩⟩
theorem take_on {w0 w : World} {S : Blocks} {L : List Rw} {t : Nat} {T : Tr} (hO : Own ⟨w0, S⟩ w L) (H : Tree S (Pc L) t T) {j : Int} {nd : Nd} {k : Nat} (h : At T j nd k) {name : ByteArray} {i : Int} {f : Nd} (hs : look nd.kids name = some i) (g : Fl T i f) :
    Calls Tryz.prog 140 #[.pointer (some ⟨t, 0, none⟩), .agg #[.pointer (some ⟨nd.b, 0, none⟩), .string name]] w (fun e w' => e = .returned (.tuple #[]) ∧ ∃ S', Own ⟨w0, S'⟩ w' L ∧ Tree S' (Pc L) t (takeTx T j name) ∧ Frame S S' (t :: T.foot) (t :: (takeTx T j name).foot) w.heap.size) :=
  (take_any hO H h.there h.dir name hs g.there g.file g.low g.high).mono fun e w' hd => by
    obtain ⟨S', e1, h1, h2, h3⟩ := hd
    rw [takeTx_of h.there hs g.there]
    exact ⟨e1, S', h1, h2, h3⟩
theorem put_on {w0 w : World} {S : Blocks} {L : List Rw} {t : Nat} {T : Tr} (hO : Own ⟨w0, S⟩ w L) (H : Tree S (Pc L) t T) {j : Int} {nd : Nd} {k : Nat} (h : At T j nd k) (name : ByteArray) {i : Int} {f : Nd} (g : Fl T i f) :
    Calls Tryz.prog 139 #[.pointer (some ⟨t, 0, none⟩), .agg #[.pointer (some ⟨nd.b, 0, none⟩), .string name], .int .i64 i] w (fun e w' => e = .returned (.tuple #[]) ∧ ∃ S', Own ⟨w0, S'⟩ w' L ∧ Tree S' (Pc L) t (putTx T j name i) ∧ Frame S S' (t :: T.foot) (t :: (putTx T j name i).foot) w.heap.size) :=
  (put_any hO H h.there h.dir name g.there g.file g.low g.high).mono fun e w' hd => by
    obtain ⟨S', e1, h1, h2, h3⟩ := hd
    rw [putTx_of name h.there g.there]
    exact ⟨e1, S', h1, h2, h3⟩
end Go.Proofs.YtkhnkidggcjfeaaGreatDoor
end
section
namespace Go.Proofs.YtkhnkidggcjfeaaGreatDoor
open Go.RowKit
open Go.ChangeMaps (setBlock)
theorem Frame.more {S S2 S3 : Blocks} {F F3 : List Nat} {n m : Nat} (hs : ∀ b x, (b, x) ∈ S → (b, x) ∈ S2) (k : Frame S2 S3 F F3 m) (hnm : n ≤ m) (hlt : ∀ b x, (b, x) ∈ S → b < n) : Frame S S3 F F3 n :=
  (⟨fun b x hb _ => hs b x hb, fun b hb => .inl hb⟩ : Frame S S2 F F n).trans k hnm hlt
theorem two_boxes {w0 w : World} {S : Blocks} {L : List Rw} {t : Nat} {T : Tr} (hO : Own ⟨w0, S⟩ w L) (H : Tree S (Pc L) t T) (P Q : Obj) : ∃ w1 S2, w1 = (w.alloc P).alloc Q ∧ w1.heap.size = w.heap.size + 2 ∧ Own ⟨w0, S2⟩ w1.drew L ∧ Tree S2 (Pc L) t T ∧ (w.heap.size, P) ∈ S2 ∧ (w.heap.size + 1, Q) ∈ S2 ∧ (∀ b x, (b, x) ∈ S → (b, x) ∈ S2) ∧ (∀ b x, (b, x) ∈ S → b < w.heap.size) ∧ (∀ b ∈ t :: T.foot, b < w.heap.size) := by
  have h2 := (hO.newB P).newB Q
  rw [show (w.alloc P).heap.size = w.heap.size + 1 by simp] at h2
  refine ⟨_, (w.heap.size + 1, Q) :: (w.heap.size, P) :: S, rfl, by simp, h2.drew, H.mono (fun b x _ hx => List.mem_cons_of_mem _ (List.mem_cons_of_mem _ hx)) (fun _ _ h => h), List.mem_cons_of_mem _ (List.mem_cons_self ..), List.mem_cons_self .., fun b x hb => List.mem_cons_of_mem _ (List.mem_cons_of_mem _ hb), fun b x hb => (hO.atLt hb).2, fun b hb => ?_⟩
  obtain ⟨x, hx⟩ := kept_in H.at_ b hb
  exact (hO.atLt hx).2
theorem take_put {w0 w w1 : World} {S S2 : Blocks} {L : List Rw} {t : Nat} {T T0 : Tr} {m : Nat} (hO : Own ⟨w0, S2⟩ w1 L) (H : Tree S2 (Pc L) t T) {ja jb i : Int} {nda ndb f : Nd} {ka kb : Nat} (ha : At T ja nda ka) (hb : At T jb ndb kb) {na nb : ByteArray} (hs : look nda.kids na = some i) (g : Fl T i f) (hp : 1 ≤ f.places)
    (hP : (m, Obj.cells #[.pointer (some ⟨nda.b, 0, none⟩), .string na] 180) ∈ S2) (hQ : (m + 1, Obj.cells #[.pointer (some ⟨ndb.b, 0, none⟩), .string nb] 180) ∈ S2) (hlow : ∀ b ∈ t :: T.foot, b < m) (hmw : m + 2 ≤ w1.heap.size)
    (hfr : Frame S S2 (t :: T0.foot) (t :: T.foot) w.heap.size) (hwm : w.heap.size ≤ m) (hlt : ∀ b x, (b, x) ∈ S → b < w.heap.size) :
    Calls Tryz.prog 140 #[.pointer (some ⟨t, 0, none⟩), .agg #[.pointer (some ⟨nda.b, 0, none⟩), .string na]] w1 (fun e w2 => e = .returned (.tuple #[]) ∧ w2.cell? ⟨m, 0, none⟩ = some (.pointer (some ⟨nda.b, 0, none⟩)) ∧ w2.cell? ⟨m, 1, none⟩ = some (.string na) ∧ w2.cell? ⟨m + 1, 0, none⟩ = some (.pointer (some ⟨ndb.b, 0, none⟩)) ∧ w2.cell? ⟨m + 1, 1, none⟩ = some (.string nb) ∧
      Calls Tryz.prog 139 #[.pointer (some ⟨t, 0, none⟩), .agg #[.pointer (some ⟨ndb.b, 0, none⟩), .string nb], .int .i64 i] w2 (fun e w3 => e = .returned (.tuple #[]) ∧ ∃ S', Own ⟨w0, S'⟩ w3 L ∧ Tree S' (Pc L) t (putTx (takeTx T ja na) jb nb i) ∧ Frame S S' (t :: T0.foot) (t :: (putTx (takeTx T ja na) jb nb i).foot) w.heap.size)) :=
  (take_on hO H ha hs g).mono fun e w2 hd => by
    obtain ⟨e1, S3, h1, h2, h3⟩ := hd
    have m1 := h3.kept _ _ hP (fun hm => by have := hlow _ hm; omega)
    have m2 := h3.kept _ _ hQ (fun hm => by have := hlow _ hm; omega)
    obtain ⟨nd2, x1, x2, _, _⟩ := ha.behind (name := na) g hb
    obtain ⟨f2, y1⟩ := Fl.behind (name := na) ha g g (.inl hp)
    rw [← takeTx_of ha.there hs g.there] at x1 y1
    have hp2 := put_on h1 h2 x1 nb y1
    rw [x2] at hp2
    have hsz : w.heap.size ≤ w2.heap.size := by
      have := (h1.atLt m2).2
      omega
    refine ⟨e1, by rw [h1.cellB m1]; rfl, by rw [h1.cellB m1]; rfl, by rw [h1.cellB m2]; rfl, by rw [h1.cellB m2]; rfl, hp2.mono fun e w3 hd => ?_⟩
    obtain ⟨e2, S4, z1, z2, z3⟩ := hd
    exact ⟨e2, S4, z1, z2, (hfr.trans h3 (by omega) hlt).trans z3 hsz hlt⟩
def argP (nd : Nd) (name : ByteArray) : Value := .agg #[.pointer (some ⟨nd.b, 0, none⟩), .string name]
abbrev boxP (nd : Nd) (name : ByteArray) : Obj := .cells #[.pointer (some ⟨nd.b, 0, none⟩), .string name] 180
def RenamePost (w0 : World) (S : Blocks) (L : List Rw) (t : Nat) (T T' : Tr) (w : World) (c : Int) : Ending → World → Prop := DoL w0 S L t T w (fun T2 => T2 = T') (.int .i64 c)
set_option maxHeartbeats 2000000 in
theorem rename_free {w0 w : World} {S : Blocks} {L : List Rw} {t : Nat} {T : Tr} (hO : Own ⟨w0, S⟩ w L) (H : Tree S (Pc L) t T) {ja jb i : Int} {nda ndb f : Nd} {ka kb : Nat} (ha : At T ja nda ka) (hb : At T jb ndb kb) {na nb : ByteArray} (hs : look nda.kids na = some i) (g : Fl T i f) (hp : 1 ≤ f.places) (hx : look ndb.kids nb = none) :
    Calls Tryz.prog 142 #[.pointer (some ⟨t, 0, none⟩), .agg #[.pointer (some ⟨nda.b, 0, none⟩), .string na], .agg #[.pointer (some ⟨ndb.b, 0, none⟩), .string nb], .int .i64 i] w (DoL w0 S L t T w (fun T2 => T2 = putTx (takeTx T ja na) jb nb i) (.int .i64 0)) := by
  obtain ⟨w1, S2, hw1, hsz, hO1, H1, m1, m2, hsub, hlt, hlow⟩ := two_boxes hO H (boxP nda na) (boxP ndb nb)
  have p0 : w1.drew.cell? ⟨w.heap.size, 0, none⟩ = some (.pointer (some ⟨nda.b, 0, none⟩)) := by rw [hO1.cellB m1]; rfl
  have p1 : w1.drew.cell? ⟨w.heap.size, 1, none⟩ = some (.string na) := by rw [hO1.cellB m1]; rfl
  have q0 : w1.drew.cell? ⟨w.heap.size + 1, 0, none⟩ = some (.pointer (some ⟨ndb.b, 0, none⟩)) := by rw [hO1.cellB m2]; rfl
  have q1 : w1.drew.cell? ⟨w.heap.size + 1, 1, none⟩ = some (.string nb) := by rw [hO1.cellB m2]; rfl
  have hNW := (H1.at_.inWorld hO1).node _ (look_mem hb.there)
  obtain ⟨c0, _, _⟩ := hNW.at0
  rw [hb.dir] at c0
  have hl := hNW.look hb.dir nb
  rw [hx] at hl
  dsimp only [Option.getD_none, Option.isSome_none] at hl
  have hT := take_put (w := w) (T0 := T) (m := w.heap.size) hO1 H1 ha hb hs g hp m1 m2 hlow (by show _ ≤ w1.heap.size; omega) ⟨fun b x hb _ => hsub b x hb, fun b hb => .inl hb⟩ (Nat.le_refl _) hlt
  clear hO H hO1 H1 ha hb hx hNW hs g hp m1 m2 hsub hlt hlow hsz
  go_enter Tryz.func142, Tryz.ntmps142
  go_wp2_with fail
  rw [← hw1]
  clear hw1
  go_region
  go_wp2_with fail
  refine hT.mono ?_
  rintro e w2 ⟨rfl, r0, r1, s0, s1, hput⟩
  clear p0 p1 q0 q1 c0 hl hT
  go_wp2_with fail
  refine hput.mono ?_
  rintro e w3 ⟨rfl, S', k1, k2, k3⟩
  have HP := Lib.hid (show DoL w0 S L t T w (fun T2 => T2 = putTx (takeTx T ja na) jb nb i) (.int .i64 0) (.returned (.int .i64 0)) w3 from ⟨S', L, _, rfl, k1, fun _ h => h, k2, k3, rfl⟩)
  clear k1 k2 k3 hput
  go_wp2_with fail
  go_ret
  exact HP.out
end Go.Proofs.YtkhnkidggcjfeaaGreatDoor
end
section
namespace Go.Proofs.YtkhnkidggcjfeaaGreatDoor
open Go.RowKit
open Go.ChangeMaps (setBlock)
theorem foot_takeTx {T : Tr} {j : Int} {nd : Nd} {k : Nat} {name : ByteArray} {i : Int} {f : Nd} (h : At T j nd k) (hs : look nd.kids name = some i) (g : Fl T i f) : (takeTx T j name).foot = T.foot := by
  rw [takeTx_of h.there hs g.there]
  have hj2 : look (T.setN i { f with places := f.places - 1 }).nodes j = some nd := by unfold Tr.setN; rw [look_put, if_neg (h.ne g)]; exact h.there
  exact (setN_foot (n' := { nd with kids := del nd.kids name }) hj2 rfl rfl).trans (setN_foot (n' := { f with places := f.places - 1 }) g.there rfl rfl)
set_option maxHeartbeats 2000000 in
theorem rename_still {w0 w : World} {S : Blocks} {L : List Rw} {t : Nat} {T : Tr} (hO : Own ⟨w0, S⟩ w L) (H : Tree S (Pc L) t T) {jb i old : Int} {nda ndb fo : Nd} {kb : Nat} (hb : At T jb ndb kb) {na nb : ByteArray} (hx : look ndb.kids nb = some old) (ho : look T.nodes old = some fo)
    {c : Int} (hc : (fo.k.isSome = true ∧ c = 10) ∨ (fo.k.isSome = false ∧ old = i ∧ c = 0)) :
    Calls Tryz.prog 142 #[.pointer (some ⟨t, 0, none⟩), .agg #[.pointer (some ⟨nda.b, 0, none⟩), .string na], .agg #[.pointer (some ⟨ndb.b, 0, none⟩), .string nb], .int .i64 i] w (DoL w0 S L t T w (fun T2 => T2 = T) (.int .i64 c)) := by
  obtain ⟨w1, S2, hw1, hsz, hO1, H1, m1, m2, hsub, hlt, hlow⟩ := two_boxes hO H (boxP nda na) (boxP ndb nb)
  have q0 : w1.drew.cell? ⟨w.heap.size + 1, 0, none⟩ = some (.pointer (some ⟨ndb.b, 0, none⟩)) := by rw [hO1.cellB m2]; rfl
  have q1 : w1.drew.cell? ⟨w.heap.size + 1, 1, none⟩ = some (.string nb) := by rw [hO1.cellB m2]; rfl
  have hNW := (H1.at_.inWorld hO1).node _ (look_mem hb.there)
  obtain ⟨c0, _, _⟩ := hNW.at0
  rw [hb.dir] at c0
  have hl := hNW.look hb.dir nb
  rw [hx] at hl
  dsimp only [Option.getD_some, Option.isSome_some] at hl
  have c2 := (H1.at_.inWorld hO1).at0.2.2
  have hl2 := (H1.at_.inWorld hO1).look old
  rw [ho] at hl2
  dsimp only [ptrOf] at hl2
  have hdir := dir_any ((H1.at_.inWorld hO1).node _ (look_mem ho))
  have HP := Lib.hid (show ∀ c : Int, DoL w0 S L t T w (fun T2 => T2 = T) (.int .i64 c) (.returned (.int .i64 c)) w1.drew from fun c => ⟨S2, L, T, rfl, hO1, fun _ h => h, H1, ⟨fun b x hb _ => hsub b x hb, fun b hb => .inl hb⟩, rfl⟩)
  rcases hc with ⟨h1, rfl⟩ | ⟨h1, rfl, rfl⟩
  · rw [h1] at hdir
    clear hO H hO1 H1 hb hx hNW m1 m2 hsub hlt hlow hsz ho h1
    go_enter Tryz.func142, Tryz.ntmps142
    go_wp2_with fail
    rw [← hw1]
    clear hw1
    go_region
    go_wp2_with (go_at_call 96; refine hdir.mono ?_; rintro e w' ⟨rfl, rfl⟩)
    go_ret
    exact HP.out _
  · rw [h1] at hdir
    clear hO H hO1 H1 hb hx hNW m1 m2 hsub hlt hlow hsz ho h1
    go_enter Tryz.func142, Tryz.ntmps142
    go_wp2_with fail
    rw [← hw1]
    clear hw1
    go_region
    go_wp2_with (go_at_call 96; refine hdir.mono ?_; rintro e w' ⟨rfl, rfl⟩)
    go_ret
    exact HP.out _
set_option maxHeartbeats 2000000 in
theorem rename_over {w0 w : World} {S : Blocks} {L : List Rw} {t : Nat} {T : Tr} (hO : Own ⟨w0, S⟩ w L) (H : Tree S (Pc L) t T) {ja jb i old : Int} {nda ndb f fo : Nd} {ka kb : Nat} (ha : At T ja nda ka) (hb : At T jb ndb kb) {na nb : ByteArray} (hs : look nda.kids na = some i) (g : Fl T i f) (hp : 1 ≤ f.places)
    (hx : look ndb.kids nb = some old) (go : Fl T old fo) (hne : old ≠ i) :
    Calls Tryz.prog 142 #[.pointer (some ⟨t, 0, none⟩), .agg #[.pointer (some ⟨nda.b, 0, none⟩), .string na], .agg #[.pointer (some ⟨ndb.b, 0, none⟩), .string nb], .int .i64 i] w (DoL w0 S L t T w (fun T2 => T2 = putTx (takeTx (takeTx T jb nb) ja na) jb nb i) (.int .i64 0)) := by
  obtain ⟨w1, S2, hw1, hsz, hO1, H1, m1, m2, hsub, hlt, hlow⟩ := two_boxes hO H (boxP nda na) (boxP ndb nb)
  have p0 : w1.drew.cell? ⟨w.heap.size, 0, none⟩ = some (.pointer (some ⟨nda.b, 0, none⟩)) := by rw [hO1.cellB m1]; rfl
  have p1 : w1.drew.cell? ⟨w.heap.size, 1, none⟩ = some (.string na) := by rw [hO1.cellB m1]; rfl
  have q0 : w1.drew.cell? ⟨w.heap.size + 1, 0, none⟩ = some (.pointer (some ⟨ndb.b, 0, none⟩)) := by rw [hO1.cellB m2]; rfl
  have q1 : w1.drew.cell? ⟨w.heap.size + 1, 1, none⟩ = some (.string nb) := by rw [hO1.cellB m2]; rfl
  have hNW := (H1.at_.inWorld hO1).node _ (look_mem hb.there)
  obtain ⟨c0, _, _⟩ := hNW.at0
  rw [hb.dir] at c0
  have hl := hNW.look hb.dir nb
  rw [hx] at hl
  dsimp only [Option.getD_some, Option.isSome_some] at hl
  have c2 := (H1.at_.inWorld hO1).at0.2.2
  have hl2 := (H1.at_.inWorld hO1).look old
  rw [go.there] at hl2
  dsimp only [ptrOf] at hl2
  have hdir := dir_any ((H1.at_.inWorld hO1).node _ (look_mem go.there))
  rw [show fo.k.isSome = false by rw [go.file]; rfl] at hdir
  have hq : (old == i) = false := by simpa using hne
  have hT0 : Calls Tryz.prog 140 #[.pointer (some ⟨t, 0, none⟩), .agg #[.pointer (some ⟨ndb.b, 0, none⟩), .string nb]] w1.drew (fun e w2 => e = .returned (.tuple #[]) ∧ w2.cell? ⟨w.heap.size, 0, none⟩ = some (.pointer (some ⟨nda.b, 0, none⟩)) ∧ w2.cell? ⟨w.heap.size, 1, none⟩ = some (.string na) ∧
      Calls Tryz.prog 140 #[.pointer (some ⟨t, 0, none⟩), .agg #[.pointer (some ⟨nda.b, 0, none⟩), .string na]] w2 (fun e w3 => e = .returned (.tuple #[]) ∧ w3.cell? ⟨w.heap.size + 1, 0, none⟩ = some (.pointer (some ⟨ndb.b, 0, none⟩)) ∧ w3.cell? ⟨w.heap.size + 1, 1, none⟩ = some (.string nb) ∧
        Calls Tryz.prog 139 #[.pointer (some ⟨t, 0, none⟩), .agg #[.pointer (some ⟨ndb.b, 0, none⟩), .string nb], .int .i64 i] w3 (fun e w4 => e = .returned (.tuple #[]) ∧ DoL w0 S L t T w (fun T2 => T2 = putTx (takeTx (takeTx T jb nb) ja na) jb nb i) (.int .i64 0) (.returned (.int .i64 0)) w4))) :=
    (take_on hO1 H1 hb hx go).mono fun e w2 hd => by
      obtain ⟨e1, S3, h1, h2, h3⟩ := hd
      have n1 := h3.kept _ _ m1 (fun hm => by have := hlow _ hm; omega)
      have n2 := h3.kept _ _ m2 (fun hm => by have := hlow _ hm; omega)
      obtain ⟨nda2, x1, x2, x3, x4⟩ := hb.behind (name := nb) go ha
      obtain ⟨ndb2, y1, y2, _, _⟩ := hb.behind (name := nb) go hb
      have g1 : Fl (takeT T jb ndb nb old fo) i f := ⟨by rw [look_takeT, if_neg (hb.ne g).symm, if_neg (fun e => hne e.symm)]; exact g.there, g.file, g.low, g.high⟩
      have hs2 : look nda2.kids na = some i := by
        by_cases e : ja = jb
        · have e2 : nda = ndb := by have h1 := ha.there; rw [e, hb.there] at h1; injection h1 with h1; exact h1.symm
          rw [x4 e, look_del_ne, hs]
          intro e3
          rw [e2, e3, hx] at hs
          injection hs with hs
          exact hne hs
        · rw [x3 e]; exact hs
      rw [← takeTx_of hb.there hx go.there] at x1 y1 g1
      have n1' : (w.heap.size, boxP nda2 na) ∈ S3 := by unfold boxP; rw [x2]; exact n1
      have n2' : (w.heap.size + 1, boxP ndb2 nb) ∈ S3 := by unfold boxP; rw [y2]; exact n2
      have hft := foot_takeTx hb hx go
      have hsz2 : w.heap.size + 2 ≤ w2.heap.size := by have := (h1.atLt n2).2; omega
      have hT := take_put (w := w) (T0 := T) (m := w.heap.size) h1 h2 x1 y1 hs2 g1 hp n1' n2' (by rw [hft]; exact hlow) hsz2 (Frame.more hsub h3 (by show _ ≤ w1.heap.size; omega) hlt) (Nat.le_refl _) hlt
      rw [x2, y2] at hT
      refine ⟨e1, by rw [h1.cellB n1]; rfl, by rw [h1.cellB n1]; rfl, hT.mono fun e w3 hd => ?_⟩
      obtain ⟨e2, _, _, r0, r1, hput⟩ := hd
      refine ⟨e2, r0, r1, hput.mono fun e w4 hd => ?_⟩
      obtain ⟨e3, S', k1, k2, k3⟩ := hd
      exact ⟨e3, S', L, _, rfl, k1, fun _ h => h, k2, k3, rfl⟩
  clear hO H hO1 H1 ha hb hx hNW hs g hp m1 m2 hsub hlt hlow hsz go hne
  go_enter Tryz.func142, Tryz.ntmps142
  go_wp2_with fail
  rw [← hw1]
  clear hw1
  go_region
  go_wp2_with (go_at_call 96; refine hdir.mono ?_; rintro e w' ⟨rfl, rfl⟩)
  refine hT0.mono ?_
  rintro e w2 ⟨rfl, r0, r1, hT⟩
  clear p0 p1 q0 q1 c0 hl hT0
  go_wp2_with fail
  refine hT.mono ?_
  rintro e w3 ⟨rfl, s0, s1, hput⟩
  clear r0 r1 hT
  go_wp2_with fail
  refine hput.mono ?_
  rintro e w4 ⟨rfl, hD⟩
  have HP := Lib.hid hD
  clear hD hput
  go_wp2_with fail
  go_ret
  exact HP.out
end Go.Proofs.YtkhnkidggcjfeaaGreatDoor
end
section
namespace Go.Proofs.YtkhnkidggcjfeaaGreatDoor
open Go.RowKit
open Go.ChangeMaps (setBlock)
theorem DoL.more {w0 w w2 w' : World} {S S2 : Blocks} {L : List Rw} {t : Nat} {T : Tr} {R : Tr → Prop} {r : Value} {e : Ending} (h : DoL w0 S2 L t T w2 R r e w') (hs : ∀ b x, (b, x) ∈ S → (b, x) ∈ S2) (hw : w.heap.size ≤ w2.heap.size) (hlt : ∀ b x, (b, x) ∈ S → b < w.heap.size) : DoL w0 S L t T w R r e w' := by
  obtain ⟨S', L', T', h1, h2, h3, h4, h5, h6⟩ := h
  exact ⟨S', L', T', h1, h2, h3, h4, Frame.more hs h5 hw hlt, h6⟩
theorem two_boxes0 {w0 w : World} {S : Blocks} {L : List Rw} {t : Nat} {T : Tr} (hO : Own ⟨w0, S⟩ w L) (H : Tree S (Pc L) t T) (P Q : Obj) : ∃ w1 S2, w1 = (w.alloc P).alloc Q ∧ w1.heap.size = w.heap.size + 2 ∧ Own ⟨w0, S2⟩ w1 L ∧ Tree S2 (Pc L) t T ∧ (w.heap.size, P) ∈ S2 ∧ (w.heap.size + 1, Q) ∈ S2 ∧ (∀ b x, (b, x) ∈ S → (b, x) ∈ S2) ∧ (∀ b x, (b, x) ∈ S → b < w.heap.size) ∧ (∀ b ∈ t :: T.foot, b < w.heap.size) := by
  have h2 := (hO.newB P).newB Q
  rw [show (w.alloc P).heap.size = w.heap.size + 1 by simp] at h2
  refine ⟨_, (w.heap.size + 1, Q) :: (w.heap.size, P) :: S, rfl, by simp, h2, H.mono (fun b x _ hx => List.mem_cons_of_mem _ (List.mem_cons_of_mem _ hx)) (fun _ _ h => h), List.mem_cons_of_mem _ (List.mem_cons_self ..), List.mem_cons_self .., fun b x hb => List.mem_cons_of_mem _ (List.mem_cons_of_mem _ hb), fun b x hb => (hO.atLt hb).2, fun b hb => ?_⟩
  obtain ⟨x, hx⟩ := kept_in H.at_ b hb
  exact (hO.atLt hx).2
set_option maxHeartbeats 2000000 in
theorem turn_unlink {w0 w : World} {S : Blocks} {L : List Rw} {t : Nat} {T : Tr} (hO : Own ⟨w0, S⟩ w L) (H : Tree S (Pc L) t T) {ja i : Int} {nda f : Nd} {ka : Nat} (ha : At T ja nda ka) {na : ByteArray} (hs : look nda.kids na = some i) (g : Fl T i f)
    (p q : ByteArray) (v : Value) (hv : ∃ a n c, v = .slice a n c) :
    Calls Tryz.prog 97 #[.pointer (some ⟨t, 0, none⟩), .agg #[.pointer (some ⟨nda.b, 0, none⟩), .string na], .int .i64 i, .agg (opL 6 p q v).toArray] w (DoL w0 S L t T w (fun T2 => T2 = takeTx T ja na) (.int .i64 0)) := by
  obtain ⟨va, vn, vc, rfl⟩ := hv
  obtain ⟨w1, S2, hw1, hsz, hO2, H1, m1, m2, hsub, hlt, hlow⟩ := two_boxes0 hO H (boxP nda na) (.cells #[.int .i64 6, .string p, .string q, .slice va vn vc] 40)
  have p0 : w1.cell? ⟨w.heap.size, 0, none⟩ = some (.pointer (some ⟨nda.b, 0, none⟩)) := by rw [hO2.cellB m1]; rfl
  have p1 : w1.cell? ⟨w.heap.size, 1, none⟩ = some (.string na) := by rw [hO2.cellB m1]; rfl
  have q0 : w1.cell? ⟨w.heap.size + 1, 0, none⟩ = some (.int .i64 6) := by rw [hO2.cellB m2]; rfl
  have hT : Calls Tryz.prog 140 #[.pointer (some ⟨t, 0, none⟩), .agg #[.pointer (some ⟨nda.b, 0, none⟩), .string na]] w1 (fun e w2 => e = .returned (.tuple #[]) ∧ DoL w0 S L t T w (fun T2 => T2 = takeTx T ja na) (.int .i64 0) (.returned (.int .i64 0)) w2) :=
    (take_on hO2 H1 ha hs g).mono fun e w2 hd => by
      obtain ⟨e1, S3, h1, h2, h3⟩ := hd
      exact ⟨e1, S3, L, _, rfl, h1, fun _ h => h, h2, Frame.more hsub h3 (by omega) hlt, rfl⟩
  rw [hw1] at p0 p1 q0 hT
  clear hO H H1 ha hs g m1 m2 hsub hlt hlow hsz hO2 hw1
  go_enter Tryz.func97, Tryz.ntmps97
  go_wp2_with fail
  refine hT.mono ?_
  rintro e w2 ⟨rfl, hD⟩
  have HP := Lib.hid hD
  clear hD
  go_wp2_with fail
  go_ret
  exact HP.out
set_option maxHeartbeats 2000000 in
theorem turn_write {w0 w : World} {S : Blocks} {L : List Rw} {t : Nat} {T : Tr} (hO : Own ⟨w0, S⟩ w L) (H : Tree S (Pc L) t T) {i : Int} {nda f : Nd} {na : ByteArray} (g : Fl T i f)
    (p q : ByteArray) (v : Value) (zs : List Int) (hv : Byo w0 S (t :: T.foot) L v zs) (hlen : zs.length ≤ 140737488355328) :
    Calls Tryz.prog 97 #[.pointer (some ⟨t, 0, none⟩), .agg #[.pointer (some ⟨nda.b, 0, none⟩), .string na], .int .i64 i, .agg (opL 3 p q v).toArray] w (DoL w0 S L t T w (fun T2 => ∃ f2 : Nd, f2.er = { f.er with data := zs } ∧ T2 = T.setN i f2) (.int .i64 0)) := by
  have hcl0 := fun (w' : World) (S' : Blocks) (hs : ∀ b x, (b, x) ∈ S → b ∉ t :: T.foot → (b, x) ∈ S') (h : Own ⟨w0, S'⟩ w' L) => clone_any v zs w' (hv.by hs h) hlen
  have hz : Byts zs := (hv.by (fun _ _ h _ => h) hO).2.1
  obtain ⟨va, vc, rfl⟩ := hv.form
  obtain ⟨vn, hvn⟩ : ∃ vn, vn = zs.length := ⟨_, rfl⟩
  rw [← hvn] at hcl0 ⊢
  obtain ⟨w1, S2, hw1, hsz, hO2, H1, m1, m2, hsub, hlt, hlow⟩ := two_boxes0 hO H (boxP nda na) (.cells #[.int .i64 3, .string p, .string q, .slice va vn vc] 40)
  have hO1 := hO2.drew
  have hcl := hcl0 _ _ (fun b x hb _ => hsub b x hb) hO1
  have q0 : w1.cell? ⟨w.heap.size + 1, 0, none⟩ = some (.int .i64 3) := by rw [hO2.cellB m2]; rfl
  have hF := H1.at_.node _ (look_mem g.there)
  have hs1 : w1.drew.cell? ⟨t, 2, none⟩ = some (.map (some T.bm)) ∧ w1.drew.cell? ⟨w.heap.size + 1, 3, none⟩ = some (.slice va vn vc) := ⟨(H1.at_.inWorld hO1).at0.2.2, by rw [hO1.cellB m2]; rfl⟩
  have hl1 := (H1.at_.inWorld hO1).look i
  rw [g.there] at hl1
  dsimp only [ptrOf] at hl1
  have hgen : ∀ (w7 : World) (a7 : Option Addr) (c7 : Nat), Own w1.drew w7 [rowU (.slice a7 zs.length c7) zs] →
      (w7.cell? ⟨t, 2, none⟩ = some (.map (some T.bm)) ∧ w7.cell? ⟨w.heap.size + 1, 3, none⟩ = some (.slice va vn vc)) ∧
      (Instr.lookup 80 (.map (some T.bm)) (.int .i64 i) false).run Tryz.prog w7 = .ok (.pointer (some ⟨f.b, 0, none⟩)) w7 ∧
      w7.cell? ⟨f.b, 1, none⟩ = some f.dv ∧ w7.frozen? ⟨f.b, 1, none⟩ = false ∧
      ((w7.setCell ⟨f.b, 1, none⟩ (.slice a7 zs.length c7)).cell? ⟨t, 2, none⟩ = some (.map (some T.bm)) ∧ (w7.setCell ⟨f.b, 1, none⟩ (.slice a7 zs.length c7)).cell? ⟨w.heap.size + 1, 3, none⟩ = some (.slice va vn vc)) ∧
      DoL w0 S L t T w (fun T2 => ∃ f2 : Nd, f2.er = { f.er with data := zs } ∧ T2 = T.setN i f2) (.int .i64 0) (.returned (.int .i64 0)) (w7.setCell ⟨f.b, 1, none⟩ (.slice a7 zs.length c7)) := by
    intro w7 a7 c7 h7
    have g7 := hO1.join h7
    have hpc : Pc ([rowU (.slice a7 zs.length c7) zs] ++ L) (.slice a7 zs.length c7) zs := Pc.all g7 hz
    have H7 := H1.mono (D2 := Pc ([rowU (.slice a7 zs.length c7) zs] ++ L)) (fun b x _ hx => hx) (fun v zs h => h.mono fun r hr => List.mem_append_right _ hr)
    have hl7 := (H7.at_.inWorld g7).look i
    rw [g.there] at hl7
    have H8 := H7.setCells g.there { f with dv := .slice a7 zs.length c7, data := zs } rfl rfl rfl hpc ⟨a7, c7, rfl⟩
    have g8 := g7.storeB hF.cells 1 (.slice a7 zs.length c7)
    have hfb := foot_node g.there
    have hmx : (w.heap.size + 1) ≠ f.b := fun e => by have := hlow f.b (List.mem_cons_of_mem _ hfb.1); omega
    have m2' := upd_other m2 hmx (.cells (nodeCells { f with dv := .slice a7 zs.length c7, data := zs }) 133)
    have g8' : Own ⟨w0, upd S2 f.b (.cells (nodeCells { f with dv := .slice a7 zs.length c7, data := zs }) 133)⟩ (w7.setCell ⟨f.b, 1, none⟩ (.slice a7 zs.length c7)) ([rowU (.slice a7 zs.length c7) zs] ++ L) := g8
    refine ⟨⟨(H7.at_.inWorld g7).at0.2.2, by rw [g7.cellB m2]; rfl⟩, hl7, by rw [g7.cellB hF.cells]; rfl, free_at (g7.at hF.cells) 1, ⟨(H8.at_.inWorld g8').at0.2.2, by rw [g8'.cellB m2']; rfl⟩, _, _, _, rfl, g8', fun r hr => List.mem_append_right _ hr, H8, ?_, _, rfl, rfl⟩
    have e : (T.setN i { f with dv := .slice a7 zs.length c7, data := zs }).foot = T.foot := setN_foot g.there rfl rfl
    refine ⟨fun b x hb hnb => upd_other (hsub b x hb) (fun e => hnb (e ▸ List.mem_cons_of_mem _ hfb.1)) _, fun b hb => .inl (by rwa [e] at hb)⟩
  have hfd := hF.form
  obtain ⟨fa, fc, hfv⟩ := hfd
  rw [hfv] at hgen
  rw [hw1] at q0
  clear hO H hO1 H1 m1 m2 hsub hlt hlow hsz hO2 hF hv hlen hcl0 hvn g hfv
  go_enter Tryz.func97, Tryz.ntmps97
  go_wp2_with fail
  rw [← hw1]
  clear hw1
  go_region_held3 (fun w' : World => w'.cell? ⟨t, 2, none⟩ = some (.map (some T.bm)) ∧ w'.cell? ⟨w.heap.size + 1, 3, none⟩ = some (.slice va vn vc)) (first | exact hs1 | exact s3 | exact s1) (first | (go_at_call 103; refine hcl.mono ?_; rintro e w7 ⟨v7, rfl, h7⟩; obtain ⟨a7, c7, rfl, _, _⟩ := Own.sized (h := (show Own w1.drew w7 (⟨5, 1, v7, zs.length, bs zs⟩ :: []) from h7)); obtain ⟨s1, hl7, f1, fz1, s3, hD⟩ := hgen w7 a7 c7 h7))
  all_goals (have HP := Lib.hid hD)
  all_goals clear hD hgen hcl
  all_goals go_wp2_with fail
  all_goals go_ret
  all_goals exact HP.out
end Go.Proofs.YtkhnkidggcjfeaaGreatDoor
end
section
namespace Go.Proofs.YtkhnkidggcjfeaaGreatDoor
open Go.RowKit
open Go.ChangeMaps (setBlock)
set_option maxHeartbeats 2000000 in
theorem turn_bad {w0 w : World} {S : Blocks} {L : List Rw} {t : Nat} {T : Tr} (hO : Own ⟨w0, S⟩ w L) (H : Tree S (Pc L) t T) (hm : Mx w) {i : Int} {nda : Nd} {na : ByteArray} {κ : Int} (hκ : κ = 4 ∨ κ = 5)
    (p q : ByteArray) (hq : q.size ≤ maxLen) (v : Value) (hv : ∃ a n c, v = .slice a n c) {c : Int} (hc : placeT T q.data.toList = (c, none)) (hc0 : (c != 0) = true) :
    Calls Tryz.prog 97 #[.pointer (some ⟨t, 0, none⟩), .agg #[.pointer (some ⟨nda.b, 0, none⟩), .string na], .int .i64 i, .agg (opL κ p q v).toArray] w (DoL w0 S L t T w (fun T2 => T2 = T) (.int .i64 c)) := by
  obtain ⟨va, vn, vc, rfl⟩ := hv
  obtain ⟨w1, S2, hw1, hsz, hO2, H1, m1, m2, hsub, hlt, hlow⟩ := two_boxes0 hO H (boxP nda na) (.cells #[.int .i64 κ, .string p, .string q, .slice va vn vc] 40)
  have q0 : w1.cell? ⟨w.heap.size + 1, 0, none⟩ = some (.int .i64 κ) := by rw [hO2.cellB m2]; rfl
  have q2 : w1.cell? ⟨w.heap.size + 1, 2, none⟩ = some (.string q) := by rw [hO2.cellB m2]; rfl
  have hB1 : Below w.heap.size w w1 := by rw [hw1]; exact ((Below.refl _ w).alloc (Nat.le_refl _) _).alloc (by simp) _
  have hpl := place_any (H1.at_.inWorld hO2) H.good q hq (hm.later hB1)
  rw [hc] at hpl
  have hD : ∀ w', Own ⟨w0, S2⟩ w' L → DoL w0 S L t T w (fun T2 => T2 = T) (.int .i64 c) (.returned (.int .i64 c)) w' := fun w' h => ⟨S2, L, T, rfl, h, fun _ h => h, H1, ⟨fun b x hb _ => hsub b x hb, fun b hb => .inl hb⟩, rfl⟩
  have HO2 := Lib.hid hO2
  have k3 : (κ == 3) = false := by rcases hκ with rfl | rfl <;> rfl
  have k6 : (κ == 6) = false := by rcases hκ with rfl | rfl <;> rfl
  rw [hw1] at q0 q2 hpl
  clear hO H hO2 H1 m1 m2 hsub hlt hlow hsz hc hm hB1 hκ
  dsimp only [placeL, zP] at hpl
  go_enter Tryz.func97, Tryz.ntmps97
  go_wp2_with fail
  refine hpl.mono ?_
  rintro e w2 ⟨rfl, hb⟩
  rw [← hw1] at hb
  have hO3 := HO2.out.later hb
  have HD := Lib.hid (hD _ (hO3.alloc (.cells #[.pointer none, .string ⟨#[]⟩] 180)))
  clear q0 q2 hpl hw1 hb hO3 hD
  go_wp2_with fail
  go_ret
  exact HD.out
set_option maxHeartbeats 2000000 in
theorem turn_link {w0 w : World} {S : Blocks} {L : List Rw} {t : Nat} {T T' : Tr} (hO : Own ⟨w0, S⟩ w L) (H : Tree S (Pc L) t T) (hm : Mx w) {i : Int} {nda : Nd} {na : ByteArray}
    (p q : ByteArray) (hq : q.size ≤ maxLen) (v : Value) (hv : ∃ a n c, v = .slice a n c) {jb : Int} {ndb : Nd} {z : List UInt8} (hc : placeT T q.data.toList = (0, some (jb, ndb, z))) {c : Int}
    (hcall : ∀ S' w', Own ⟨w0, S'⟩ w' L → Tree S' (Pc L) t T → Calls Tryz.prog 141 #[.pointer (some ⟨t, 0, none⟩), .agg #[.pointer (some ⟨ndb.b, 0, none⟩), .string (toB z)], .int .i64 i] w' (DoL w0 S' L t T w' (fun T2 => T2 = T') (.int .i64 c))) :
    Calls Tryz.prog 97 #[.pointer (some ⟨t, 0, none⟩), .agg #[.pointer (some ⟨nda.b, 0, none⟩), .string na], .int .i64 i, .agg (opL 4 p q v).toArray] w (DoL w0 S L t T w (fun T2 => T2 = T') (.int .i64 c)) := by
  obtain ⟨va, vn, vc, rfl⟩ := hv
  obtain ⟨w1, S2, hw1, hsz, hO2, H1, m1, m2, hsub, hlt, hlow⟩ := two_boxes0 hO H (boxP nda na) (.cells #[.int .i64 4, .string p, .string q, .slice va vn vc] 40)
  have q0 : w1.cell? ⟨w.heap.size + 1, 0, none⟩ = some (.int .i64 4) := by rw [hO2.cellB m2]; rfl
  have q2 : w1.cell? ⟨w.heap.size + 1, 2, none⟩ = some (.string q) := by rw [hO2.cellB m2]; rfl
  have hB1 : Below w.heap.size w w1 := by rw [hw1]; exact ((Below.refl _ w).alloc (Nat.le_refl _) _).alloc (by simp) _
  have hpl := place_any (H1.at_.inWorld hO2) H.good q hq (hm.later hB1)
  rw [hc] at hpl
  have HO2 := Lib.hid hO2
  have hgen : ∀ w2, Own ⟨w0, S2⟩ w2 L → w.heap.size ≤ w2.heap.size → (w2.alloc (boxP ndb (toB z))).cell? ⟨w.heap.size, 0, none⟩ = some (.pointer (some ⟨nda.b, 0, none⟩)) ∧ (w2.alloc (boxP ndb (toB z))).cell? ⟨w.heap.size, 1, none⟩ = some (.string na) ∧ (w2.alloc (boxP ndb (toB z))).cell? ⟨w.heap.size + 1, 0, none⟩ = some (.int .i64 4) ∧
      Calls Tryz.prog 141 #[.pointer (some ⟨t, 0, none⟩), .agg #[.pointer (some ⟨ndb.b, 0, none⟩), .string (toB z)], .int .i64 i] (w2.alloc (boxP ndb (toB z))) (fun e w' => e = .returned (.int .i64 c) ∧ DoL w0 S L t T w (fun T2 => T2 = T') (.int .i64 c) (.returned (.int .i64 c)) w') := by
    intro w2 h2 h3
    have h4 := h2.alloc (boxP ndb (toB z))
    refine ⟨by rw [h4.cellB m1]; rfl, by rw [h4.cellB m1]; rfl, by rw [h4.cellB m2]; rfl, (hcall S2 _ h4 H1).mono fun e w' hd => ?_⟩
    have e1 : e = .returned (.int .i64 c) := hd.choose_spec.choose_spec.choose_spec.1
    subst e1
    exact ⟨rfl, hd.more hsub (by simp; omega) hlt⟩
  have hsz1 : w.heap.size ≤ w1.heap.size := by omega
  rw [hw1] at q0 q2 hpl
  clear hO H hO2 H1 m1 m2 hsub hlt hlow hsz hc hm hB1 hcall
  dsimp only [placeL] at hpl
  go_enter Tryz.func97, Tryz.ntmps97
  go_wp2_with fail
  refine hpl.mono ?_
  rintro e w2 ⟨rfl, hb⟩
  rw [← hw1] at hb
  have hO3 := HO2.out.later hb
  obtain ⟨r0, r1, r2, hcl⟩ := hgen w2 hO3 (Nat.le_trans hsz1 hb.size)
  clear q0 q2 hpl hw1 hb hO3 hgen hsz1 HO2
  go_wp2_with fail
  refine hcl.mono ?_
  rintro e w3 ⟨rfl, hD⟩
  have HD := Lib.hid hD
  clear hD hcl
  go_wp2_with fail
  go_ret
  exact HD.out
set_option maxHeartbeats 2000000 in
theorem turn_rename {w0 w : World} {S : Blocks} {L : List Rw} {t : Nat} {T T' : Tr} (hO : Own ⟨w0, S⟩ w L) (H : Tree S (Pc L) t T) (hm : Mx w) {i : Int} {nda : Nd} {na : ByteArray}
    (p q : ByteArray) (hq : q.size ≤ maxLen) (v : Value) (hv : ∃ a n c, v = .slice a n c) {jb : Int} {ndb : Nd} {z : List UInt8} (hc : placeT T q.data.toList = (0, some (jb, ndb, z))) {c : Int}
    (hcall : ∀ S' w', Own ⟨w0, S'⟩ w' L → Tree S' (Pc L) t T → Calls Tryz.prog 142 #[.pointer (some ⟨t, 0, none⟩), .agg #[.pointer (some ⟨nda.b, 0, none⟩), .string na], .agg #[.pointer (some ⟨ndb.b, 0, none⟩), .string (toB z)], .int .i64 i] w' (DoL w0 S' L t T w' (fun T2 => T2 = T') (.int .i64 c))) :
    Calls Tryz.prog 97 #[.pointer (some ⟨t, 0, none⟩), .agg #[.pointer (some ⟨nda.b, 0, none⟩), .string na], .int .i64 i, .agg (opL 5 p q v).toArray] w (DoL w0 S L t T w (fun T2 => T2 = T') (.int .i64 c)) := by
  obtain ⟨va, vn, vc, rfl⟩ := hv
  obtain ⟨w1, S2, hw1, hsz, hO2, H1, m1, m2, hsub, hlt, hlow⟩ := two_boxes0 hO H (boxP nda na) (.cells #[.int .i64 5, .string p, .string q, .slice va vn vc] 40)
  have q0 : w1.cell? ⟨w.heap.size + 1, 0, none⟩ = some (.int .i64 5) := by rw [hO2.cellB m2]; rfl
  have q2 : w1.cell? ⟨w.heap.size + 1, 2, none⟩ = some (.string q) := by rw [hO2.cellB m2]; rfl
  have hB1 : Below w.heap.size w w1 := by rw [hw1]; exact ((Below.refl _ w).alloc (Nat.le_refl _) _).alloc (by simp) _
  have hpl := place_any (H1.at_.inWorld hO2) H.good q hq (hm.later hB1)
  rw [hc] at hpl
  have HO2 := Lib.hid hO2
  have hgen : ∀ w2, Own ⟨w0, S2⟩ w2 L → w.heap.size ≤ w2.heap.size → (w2.alloc (boxP ndb (toB z))).cell? ⟨w.heap.size, 0, none⟩ = some (.pointer (some ⟨nda.b, 0, none⟩)) ∧ (w2.alloc (boxP ndb (toB z))).cell? ⟨w.heap.size, 1, none⟩ = some (.string na) ∧ (w2.alloc (boxP ndb (toB z))).cell? ⟨w.heap.size + 1, 0, none⟩ = some (.int .i64 5) ∧
      Calls Tryz.prog 142 #[.pointer (some ⟨t, 0, none⟩), .agg #[.pointer (some ⟨nda.b, 0, none⟩), .string na], .agg #[.pointer (some ⟨ndb.b, 0, none⟩), .string (toB z)], .int .i64 i] (w2.alloc (boxP ndb (toB z))) (fun e w' => e = .returned (.int .i64 c) ∧ DoL w0 S L t T w (fun T2 => T2 = T') (.int .i64 c) (.returned (.int .i64 c)) w') := by
    intro w2 h2 h3
    have h4 := h2.alloc (boxP ndb (toB z))
    refine ⟨by rw [h4.cellB m1]; rfl, by rw [h4.cellB m1]; rfl, by rw [h4.cellB m2]; rfl, (hcall S2 _ h4 H1).mono fun e w' hd => ?_⟩
    have e1 : e = .returned (.int .i64 c) := hd.choose_spec.choose_spec.choose_spec.1
    subst e1
    exact ⟨rfl, hd.more hsub (by simp; omega) hlt⟩
  have hsz1 : w.heap.size ≤ w1.heap.size := by omega
  rw [hw1] at q0 q2 hpl
  clear hO H hO2 H1 m1 m2 hsub hlt hlow hsz hc hm hB1 hcall
  dsimp only [placeL] at hpl
  go_enter Tryz.func97, Tryz.ntmps97
  go_wp2_with fail
  refine hpl.mono ?_
  rintro e w2 ⟨rfl, hb⟩
  rw [← hw1] at hb
  have hO3 := HO2.out.later hb
  obtain ⟨r0, r1, r2, hcl⟩ := hgen w2 hO3 (Nat.le_trans hsz1 hb.size)
  clear q0 q2 hpl hw1 hb hO3 hgen hsz1 HO2
  go_wp2_with fail
  refine hcl.mono ?_
  rintro e w3 ⟨rfl, hD⟩
  have HD := Lib.hid hD
  clear hD hcl
  go_wp2_with fail
  go_ret
  exact HD.out
end Go.Proofs.YtkhnkidggcjfeaaGreatDoor
end
