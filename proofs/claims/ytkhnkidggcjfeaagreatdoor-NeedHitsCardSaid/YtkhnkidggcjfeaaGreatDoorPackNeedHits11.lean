/- Texts one behind the other, each in a section of its own: what calls make of memory, step by step. -/
import Derived.Test.YtkhnkidggcjfeaaGreatDoorPackNeedHits10
import Derived.Sort.OwnSortedInts
import Derived.Lib.OwnBridge
set_option linter.unusedVariables false
set_option linter.unusedSimpArgs false
set_option maxRecDepth 100000
section
namespace Go.Proofs.YtkhnkidggcjfeaaGreatDoor
open Go.RowKit
open Go.ChangeMaps (setBlock)
def Forest (w0 : World) (L : List Rw) (K : Blocks) (ts : List (Nat × Et)) (w : World) : Prop :=
  ∃ (S : Blocks) (L' : List Rw) (Ts : List (Nat × Tr × Et)), Own ⟨w0, S⟩ w L' ∧ (∀ x ∈ L, x ∈ L') ∧ (∀ b x, (b, x) ∈ K → (b, x) ∈ S ∧ ∀ y ∈ Ts, b ∉ y.1 :: y.2.1.foot) ∧ (∀ x ∈ Ts, Tree S (Pc L') x.1 x.2.1 ∧ Rep x.2.1 x.2.2) ∧
    Ts.Pairwise (fun x y => ∀ b ∈ x.1 :: x.2.1.foot, b ∉ y.1 :: y.2.1.foot) ∧ Ts.map (fun x => (x.1, x.2.2)) = ts
section
variable {w0 w w' : World} {L M : List Rw} {K : Blocks} {ts : List (Nat × Et)}
structure OpOld (w0 : World) (o : OpD) (x : OpE) : Prop where
  kind : x.kind = o.kind
  l : x.l = o.p.data.toList
  l2 : x.l2 = o.q.data.toList
  p : o.p.size ≤ maxLen
  q : o.q.size ≤ maxLen
  n : o.n = x.zs.length
  data : By w0 (.slice o.a o.n o.c) x.zs
structure OpsA (w0 : World) (a : Option Addr) (ops : List OpD) (xs : List OpE) : Prop where
  len : xs.length = ops.length
  at_ : ∀ i (h : i < ops.length), ∃ g off, a = some ⟨g, off, none⟩ ∧ w0.rangeAt g (off + i * 4) ops[i].cells
  old : ∀ i (h : i < ops.length), OpOld w0 ops[i] (xs[i]'(by omega))
def findX (E : Et) (l : List UInt8) : Option Int := if okP l then walkE E 1 (namesL l) else none
end
end Go.Proofs.YtkhnkidggcjfeaaGreatDoor
end
section
namespace Go.Proofs.YtkhnkidggcjfeaaGreatDoor
open Go.RowKit
open Go.ChangeMaps (setBlock)
theorem DkAt.openB {W0 : Base} {w : World} {d : Nat} {D : Dk} {L : List Rw} (h : DkAt W0 w d D L) : ∃ R : List Rw, Own W0 w (R ++ L) ∧ (∀ (W : Base) w' L', Own W w' (R ++ L') → DkAt W w' d D L') := by
  obtain ⟨hD, kb, lb, n, sv, hn, hO⟩ := h
  exact ⟨[rowD d kb lb sv n D, rowK kb n D.kept, rowK lb n D.last, rowS sv D.since], hO, fun W w' L' h' => ⟨hD, kb, lb, n, sv, hn, h'⟩⟩
theorem LgAt.openB {W0 : Base} {w : World} {l d : Nat} {D : Dk} {side used : Nat} {recs : List (List Int)} {dead : Bool} {L : List Rw} (h : LgAt W0 w l d D side used recs dead L) : ∃ R : List Rw, Own W0 w (R ++ L) ∧ (∀ (W : Base) w' L', Own W w' (R ++ L') → LgAt W w' l d D side used recs dead L') := by
  obtain ⟨lv, vs, M, h1, h2⟩ := h.rest
  obtain ⟨R, h3, h4⟩ := h1.openB
  refine ⟨R ++ rowLog l d side used lv dead :: rowV lv vs :: M, by simpa using h3, fun W w' L' k => ⟨h.six, h.sides, h.fit, lv, vs, M, h4 _ _ _ (by simpa using k), h2⟩⟩
structure VX where
  t : Nat
  d : Nat
  l : Nat
  hm : Nat
  E : Et
  B : Nat
  held : List (Int × Int)
  D : Dk
  n : Nat
  h : Nat
  side : Nat
  used : Nat
  st : Nat
  recs : List (List Int)
def volCells (X : VX) : Array Value := #[.pointer (some ⟨X.t, 0, none⟩), .pointer (some ⟨X.d, 0, none⟩), .pointer (some ⟨X.l, 0, none⟩), .map (some X.hm), .bool false]
def heldV (m : List (Int × Int)) : List (Int × Value) := m.map fun p => (p.1, .int .i64 p.2)
structure VolIn (w0 : World) (S : Blocks) (R L : List Rw) (v : Nat) (X : VX) (T : Tr) (w : World) : Prop where
  own : Own ⟨w0, S⟩ w (R ++ L)
  log : ∀ (W : Base) w' L', Own W w' (R ++ L') → LgAt W w' X.l X.d X.D X.side X.used X.recs false L'
  tree : Tree S (Pc L) X.t T
  rep : Rep T X.E
  inv : Inv X.E X.B
  cells : (v, .cells (volCells X) 54) ∈ S
  map : ∃ o, (X.hm, o) ∈ S ∧ MapO KI o (heldV X.held)
  off : v ∉ X.t :: T.foot ∧ X.hm ∉ X.t :: T.foot ∧ v ≠ X.hm
  live : LogLive X.D X.n X.h X.side X.used X.recs X.st
  left : X.D.left = 0
def VolAt (w0 w : World) (K : Blocks) (L : List Rw) (v : Nat) (X : VX) : Prop :=
  ∃ S R L' T, VolIn w0 S R L' v X T w ∧ (∀ x ∈ L, x ∈ L') ∧ (∀ b x, (b, x) ∈ K → (b, x) ∈ S ∧ b ∉ v :: X.hm :: X.t :: T.foot)
def VolTo (w0 : World) (S : Blocks) (L : List Rw) (v : Nat) (X : VX) (T : Tr) (n : Nat) (X' : VX) (w' : World) : Prop :=
  ∃ S' R' L' T', VolIn w0 S' R' L' v X' T' w' ∧ (∀ x ∈ L, x ∈ L') ∧ (∀ b x, (b, x) ∈ S → b ∉ v :: X.hm :: X.t :: T.foot → (b, x) ∈ S') ∧ (∀ b ∈ X.t :: T'.foot, b ∈ X.t :: T.foot ∨ n ≤ b) ∧ X'.t = X.t ∧ X'.hm = X.hm
section
variable {w0 w w' : World} {S S' : Blocks} {R L L' M : List Rw} {v : Nat} {X X' : VX} {T T' : Tr} {K : Blocks}
theorem VolIn.ownL (h : VolIn w0 S R L v X T w) : Own ⟨w0, S⟩ w L := h.own.of_mem (List.sublist_append_right _ _)
theorem VolIn.lg (h : VolIn w0 S R L v X T w) : LgAt ⟨w0, S⟩ w X.l X.d X.D X.side X.used X.recs false L := h.log _ _ _ h.own
theorem VolIn.treeW (h : VolIn w0 S R L v X T w) : TreeIn (inW w) (Pc L) X.t T := h.tree.at_.inWorld h.ownL
theorem VolIn.below (h : VolIn w0 S R L v X T w) : Below w0.heap.size w0 w := h.own.below
theorem VolIn.later (h : VolIn w0 S R L v X T w) (hb : Below w.heap.size w w') : VolIn w0 S R L v X T w' := { h with own := h.own.later hb }
theorem VolIn.join (h : VolIn w0 S R L v X T w) (k : Own w w' M) : VolIn w0 S R (M ++ L) v X T w' :=
  { h with
    own := (h.own.join k).perm (by rw [← List.append_assoc, ← List.append_assoc]; exact List.perm_append_comm.append_right L)
    tree := h.tree.mono (fun b x _ hx => hx) (fun v zs hh => hh.mono fun x hx => List.mem_append_right _ hx) }
theorem VolIn.mem (h : VolIn w0 S R L v X T w) {b : Nat} (hb : b ∈ v :: X.hm :: X.t :: T.foot) : ∃ o, (b, o) ∈ S := by
  rcases List.mem_cons.1 hb with rfl | hb
  · exact ⟨_, h.cells⟩
  · rcases List.mem_cons.1 hb with rfl | hb
    · obtain ⟨o, h1, _⟩ := h.map; exact ⟨o, h1⟩
    · exact kept_in h.tree.at_ b hb
theorem VolIn.lt (h : VolIn w0 S R L v X T w) {b : Nat} (hb : b ∈ v :: X.hm :: X.t :: T.foot) : w0.heap.size ≤ b ∧ b < w.heap.size := by
  obtain ⟨o, ho⟩ := h.mem hb
  exact h.own.atLt ho
theorem VolIn.base (h : VolIn w0 S R L v X T w) (hO : Own ⟨w0, S'⟩ w' (R ++ L)) (hk : ∀ b x, (b, x) ∈ S → b ∈ v :: X.hm :: X.t :: T.foot → (b, x) ∈ S') : VolIn w0 S' R L v X T w' :=
  { h with
    own := hO
    tree := h.tree.mono (fun b x hb hx => hk b x hx (List.mem_cons_of_mem _ (List.mem_cons_of_mem _ hb))) (fun _ _ hh => hh)
    cells := hk _ _ h.cells (List.mem_cons_self ..)
    map := by
      obtain ⟨o, h1, h2⟩ := h.map
      exact ⟨o, hk _ _ h1 (List.mem_cons_of_mem _ (List.mem_cons_self ..)), h2⟩ }
theorem VolIn.logTurn (h : VolIn w0 S R L v X T w) {D' : Dk} {side' used' st' : Nat} {recs' : List (List Int)} (hl : LgAt ⟨w0, S⟩ w' X.l X.d D' side' used' recs' false L) (hv : LogLive D' X.n X.h side' used' recs' st') (hz : D'.left = 0) :
    ∃ R', VolIn w0 S R' L v { X with D := D', side := side', used := used', recs := recs', st := st' } T w' := by
  obtain ⟨R', h1, h2⟩ := hl.openB
  exact ⟨R', ⟨h1, h2, h.tree, h.rep, h.inv, h.cells, h.map, h.off, hv, hz⟩⟩
theorem VolIn.forTree (h : VolIn w0 S R L v X T w) : Own ⟨w0, blks w R ++ S⟩ w L ∧ Tree (blks w R ++ S) (Pc L) X.t T :=
  ⟨h.own.shelve, h.tree.mono (fun b x _ hx => List.mem_append_right _ hx) (fun _ _ hh => hh)⟩
theorem VolIn.back (h : VolIn w0 S R L v X T w) (hO : Own ⟨w0, S'⟩ w' L') (hL : ∀ x ∈ L, x ∈ L') (hR : ∀ m ∈ blks w R, m ∈ S') (hk : ∀ b x, (b, x) ∈ S → b ∈ v :: X.hm :: X.t :: T.foot → (b, x) ∈ S') : VolIn w0 (offR R S') R L' v X T w' := by
  have hoff : ∀ b x, (b, x) ∈ S → b ∈ v :: X.hm :: X.t :: T.foot → (b, x) ∈ offR R S' := fun b x hx hb => offR_mem.2 ⟨hk b x hx hb, h.own.offB hx⟩
  obtain ⟨o, h1, h2⟩ := h.map
  exact { h with
    own := h.own.unshelve hO hR
    tree := h.tree.mono (fun b x hb hx => hoff b x hx (List.mem_cons_of_mem _ (List.mem_cons_of_mem _ hb))) (fun _ _ hh => hh.mono hL)
    cells := hoff _ _ h.cells (List.mem_cons_self ..)
    map := ⟨o, hoff _ _ h1 (List.mem_cons_of_mem _ (List.mem_cons_self ..)), h2⟩ }
theorem VolIn.offTree (h : VolIn w0 S R L v X T w) {b : Nat} {o : Obj} (hb : (b, o) ∈ blks w R) : b ∉ v :: X.hm :: X.t :: T.foot := fun hm => by
  obtain ⟨x, hx⟩ := h.mem hm
  obtain ⟨r, hr, h1, _⟩ := blks_mem hb
  exact h.own.offB hx r hr h1
theorem VolIn.turned (h : VolIn w0 S R L v X T w) (hO : Own ⟨w0, S'⟩ w' L') (hL : ∀ x ∈ L, x ∈ L') (ht : Tree S' (Pc L') X.t T') (hf : Frame (blks w R ++ S) S' (X.t :: T.foot) (X.t :: T'.foot) w.heap.size) {E' : Et} {B' : Nat} (hr : Rep T' E') (hi : Inv E' B') :
    VolIn w0 (offR R S') R L' v { X with E := E', B := B' } T' w' := by
  have hkeep : ∀ b x, (b, x) ∈ S → b ∉ X.t :: T.foot → (b, x) ∈ offR R S' := fun b x hx hb => offR_mem.2 ⟨hf.kept b x (List.mem_append_right _ hx) hb, h.own.offB hx⟩
  have hnot : ∀ b, b ∈ v :: X.hm :: X.t :: T.foot → b ∉ X.t :: T.foot → b ∉ X.t :: T'.foot := fun b hb hn hm => by
    rcases hf.fresh b hm with h1 | h1
    · exact hn h1
    · have := (h.lt hb).2; omega
  obtain ⟨o, h1, h2⟩ := h.map
  refine ⟨h.own.unshelve hO fun m hm => hf.kept m.1 m.2 (List.mem_append_left _ hm) fun hb => h.offTree hm (List.mem_cons_of_mem _ (List.mem_cons_of_mem _ hb)), h.log, ht.mono (fun b x hb hx => offR_mem.2 ⟨hx, ?_⟩) (fun _ _ hh => hh), hr, hi, hkeep _ _ h.cells h.off.1, ⟨o, hkeep _ _ h1 h.off.2.1, h2⟩, ⟨hnot _ (List.mem_cons_self ..) h.off.1, hnot _ (List.mem_cons_of_mem _ (List.mem_cons_self ..)) h.off.2.1, h.off.2.2⟩, h.live, h.left⟩
  rcases hf.fresh b hb with h3 | h3
  · obtain ⟨x0, hx0⟩ := h.mem (List.mem_cons_of_mem _ (List.mem_cons_of_mem _ h3))
    exact h.own.offB hx0
  · exact h.own.freshR h3
theorem VolIn.to (h : VolIn w0 S R L v X T w) (n : Nat) : VolTo w0 S L v X T n X w := ⟨S, R, L, T, h, fun _ h => h, fun _ _ h _ => h, fun _ h => .inl h, rfl, rfl⟩
theorem VolIn.turn (h : VolIn w0 S R L v X T w) {f : FuncId} {args : Array Value} {r : Value} {E' : Et} {B' : Nat} (hi : Inv E' B')
    (hcall : ∀ S1, (∀ b x, (b, x) ∈ S → (b, x) ∈ S1) → Own ⟨w0, S1⟩ w L → Tree S1 (Pc L) X.t T → Calls Tryz.prog f args w (DoL w0 S1 L X.t T w (fun T' => Rep T' E') r)) :
    Calls Tryz.prog f args w fun e w' => e = .returned r ∧ VolTo w0 S L v X T w.heap.size { X with E := E', B := B' } w' := by
  obtain ⟨h1, h2⟩ := h.forTree
  refine (hcall _ (fun b x hx => List.mem_append_right _ hx) h1 h2).mono fun e w' hd => ?_
  obtain ⟨S', L', T', g0, g1, g2, g3, g4, g5⟩ := hd
  refine ⟨g0, _, R, L', T', h.turned g1 g2 g3 g4 g5 hi, g2, fun b x hx hb => offR_mem.2 ⟨g4.kept b x (List.mem_append_right _ hx) (fun hm => hb (List.mem_cons_of_mem _ (List.mem_cons_of_mem _ hm))), h.own.offB hx⟩, g4.fresh, rfl, rfl⟩
theorem VolIn.held' (h : VolIn w0 S R L v X T w) {o o' : Obj} (ho : (X.hm, o) ∈ S) {held' : List (Int × Int)} (hm : MapO KI o' (heldV held')) : VolIn w0 (upd S X.hm o') R L v { X with held := held' } T (setBlock w X.hm o') := by
  have hne : ∀ b ∈ X.t :: T.foot, b ≠ X.hm := fun b hb e => h.off.2.1 (e ▸ hb)
  exact { h with
    own := h.own.setB ho o'
    tree := h.tree.mono (fun b x hb hx => upd_other hx (hne b hb) _) (fun _ _ hh => hh)
    cells := upd_other h.cells h.off.2.2 _
    map := ⟨o', upd_same ho _, hm⟩ }
end
end Go.Proofs.YtkhnkidggcjfeaaGreatDoor
end
section
namespace Go.Proofs.YtkhnkidggcjfeaaGreatDoor
open Go.RowKit
theorem grow_zeroB (w : World) : Calls Tryz.prog 147 #[.slice none 0 0, .int .i64 0] w fun e w' => e = .returned (.slice none 0 0) ∧ w = w' := by
  go_enter Tryz.func147, Tryz.ntmps147
  go_wp2_with fail
  go_ret
  exact ⟨rfl, rfl⟩
theorem grow_posB (n : Nat) (w : World) (h0 : 0 < n) (h1 : n ≤ 140737488355328) : Calls Tryz.prog 147 #[.slice none 0 0, .int .i64 (n : Int)] w fun e w' => ∃ v, e = .returned v ∧ Own w w' [rowU v []] := by
  obtain ⟨i0, hi, hz0, hz1, hz2⟩ := info_parts info_u
  have hrz : ∀ ty, (Builtin.append_ #[38, 3] ty #[.slice none 0 0, .int .i64 (n : Int)]).run Tryz.prog w =
      .ok (.slice (some ⟨w.heap.size, 0, none⟩) n (grownCap w n 0 5)) (w.drew.alloc (.cells (#[] ++ Builtin.zeroCells (Value.int .u8 0).cells n ++ Builtin.zeroCells (Value.int .u8 0).cells (grownCap w n 0 5 - n)) 5)) := fun ty => by
    have h := Lib.run_append_grow_zeros w 38 3 ty 5 i0 (.int .u8 0) .i64 .i64 Tryz.underlying38 Tryz.underlying3 hi hz0 none 0 0 [] (run_firstCells_none w.drew i0.size 0 0 0) n h0 (by omega) (by omega) (by omega) (by rw [hz2]; omega) (growslice_fits (by omega) (by rw [hz2]; omega))
    simpa using h
  have hge : n ≤ grownCap w n 0 5 := grownCap_ge w _ _ _
  have hle : grownCap w n 0 5 ≤ maxLen := grownCap_le_maxLen w n 0 _ (by unfold maxLen; omega)
  obtain ⟨G, hG⟩ : ∃ G, G = grownCap w n 0 5 := ⟨_, rfl⟩
  rw [← hG] at hrz hge hle
  have hO := World.ownsRow_made (base := w.heap.size) (e := 5) (size := 1) w.drew (#[] ++ Builtin.zeroCells (Value.int .u8 0).cells n ++ Builtin.zeroCells (Value.int .u8 0).cells (G - n)) G (Nat.le_refl _) hle (by simp [Builtin.zeroCells, Value.cells]; omega)
  generalize (#[] ++ Builtin.zeroCells (Value.int .u8 0).cells n ++ Builtin.zeroCells (Value.int .u8 0).cells (G - n)) = C at *
  have hO2 : Own w (w.drew.alloc (.cells C 5)) [rowU (.slice (some ⟨w.heap.size, 0, none⟩) 0 G) []] := ⟨(Own.start w).drew.alloc (.cells C 5) |>.below, fun p hp => by rw [List.mem_singleton.1 hp]; exact hO, List.pairwise_singleton _ _, (fun m hm => by cases hm), (fun m hm => by cases hm)⟩
  have HO := Lib.hid hO2
  have hG63 : G ≤ 9223372036854775807 := by unfold maxLen at hle; omega
  clear hG hO hO2 hle
  go_enter Tryz.func147, Tryz.ntmps147
  go_wp2_with (at_builtin; refine Lib.wpList_append_run _ rfl _ _ _ _ rfl _ _ rfl rfl _ _ (hrz _) ?_)
  go_ret
  exact ⟨_, rfl, HO.out⟩
set_option maxHeartbeats 1600000 in
theorem concat_anyB (a : Option Addr) (c : Nat) (PS : List (Value × List Int)) (w : World) (hP : Parts w a PS) (hn : PS.length ≤ maxLen) (hl : (allOf PS).length ≤ 140737488355328) :
    Calls Tryz.prog 105 #[.slice a PS.length c] w fun e w' => ∃ v, e = .returned v ∧ Own w w' [rowU v (allOf PS)] := by
  unfold maxLen at hn
  have HP := Lib.hid hP
  have Hl := Lib.hid hl
  clear hP hl
  go_enter Tryz.func105, Tryz.ntmps105
  go_wp2_with fail
  go_loop [3, 11] (fun t i => ∃ k : Nat, k ≤ PS.length ∧ i = .int .i64 k ∧ t = .int .i64 ((allOf (PS.take k)).length : Int)) (fun _ i => PS.length - (intOf i).toNat)
  case atStart => exact ⟨0, Nat.zero_le _, rfl, rfl⟩
  case round =>
    obtain ⟨k, hk, rfl, rfl⟩ := hrel
    by_cases hlt : k < PS.length
    · obtain ⟨g, o, rfl, hc, _, _, ga, gc, hv, hv1, hv2⟩ := HP.out k hlt
      have HS := Lib.hid (congrArg List.length (allOf_take_succ PS k hlt))
      have hs1 := allOf_take_le PS k
      have hs2 := allOf_take_le PS (k + 1)
      have hs3 : (allOf (PS.take (k + 1))).length = (allOf (PS.take k)).length + (PS[k].2).length := by rw [HS.out, List.length_append]
      have hs4 : (((allOf (PS.take k)).length : Nat) : Int) + (((PS[k].2).length : Nat) : Int) ≤ 140737488355328 := by have := Hl.out; omega
      have HS3 := Lib.hid hs3
      rw [hv] at hc
      clear hs3 hv
      generalize (allOf (PS.take k)).length = m at *
      generalize (PS[k].2).length = m2 at *
      go_wp2_with fail
      exact ⟨⟨k + 1, by omega, by go_num, by rw [HS3.out]; go_num⟩, by simp [intOf]; omega⟩
    · obtain rfl : k = PS.length := by omega
      have hl := Hl.out
      have HT := Lib.hid (show allOf (PS.take PS.length) = allOf PS by rw [List.take_length])
      rw [HT.out]
      obtain ⟨i0, hi, hz0, hz1, hz2⟩ := info_parts info_u
      have hm0 : (0 : Int) ≤ ((allOf PS).length : Int) := by omega
      clear HT
      obtain ⟨n, hn2⟩ : ∃ n, (allOf PS).length = n := ⟨_, rfl⟩
      rw [hn2] at hm0 hl ⊢
      have Hn2 := Lib.hid hn2
      clear hn2
      go_wp2_with fail
      refine (show Calls Tryz.prog 147 #[.slice none 0 0, .int .i64 (n : Int)] w fun e w' => ∃ v, e = .returned v ∧ Own w w' [rowU v []] from ?_).mono ?_
      · rcases Nat.eq_zero_or_pos n with h0 | h0
        · rw [h0]; exact (grow_zeroB w).mono fun e w' ⟨h1, h2⟩ => ⟨_, h1, h2 ▸ (Own.start w).nil _ _⟩
        · exact grow_posB n w h0 hl
      rintro e w1 ⟨v, rfl, hO1⟩
      have HO1 := Lib.hid hO1
      obtain ⟨va, vc, rfl, _, _⟩ := Own.sized (h := hO1)
      clear hO1
      go_wp2_with fail
      go_loopw [6, 27] (fun t i wr => ∃ k : Nat, k ≤ PS.length ∧ i = .int .i64 k ∧ Own w wr [rowU t (allOf (PS.take k))]) (fun _ i _ => PS.length - (intOf i).toNat)
      case atStart => exact ⟨0, Nat.zero_le _, rfl, HO1.out⟩
      case round =>
        obtain ⟨k, hk, rfl, hO⟩ := hrel
        by_cases hlt : k < PS.length
        · obtain ⟨g, o, rfl, hc, hy⟩ := (HP.out.later hO.below) k hlt
          have hys := hy.1
          have HS := Lib.hid (allOf_take_succ PS k hlt)
          have hs2 := allOf_take_le PS (k + 1)
          have hs3 : (allOf (PS.take (k + 1))).length = (allOf (PS.take k)).length + (PS[k].2).length := by rw [HS.out, List.length_append]
          have hsum : (allOf (PS.take k)).length + (PS[k].2).length ≤ 140737488355328 := by have := Hl.out; omega
          have Hsum := Lib.hid hsum
          have HO := Lib.hid hO
          have Hys := Lib.hid hys
          clear hs2 hs3 hO hy hys hsum
          generalize PS[k].2 = zk at *
          generalize PS[k].1 = vk at *
          go_wp2_with (at_builtin; refine wpList_append_src rfl (.tmp 31) (.tmp 32) 38 rfl _ (allOf (PS.take k)).length (bs (allOf (PS.take k))) vk zk.length (bs zk) rfl rfl HO.out i0 (.int .u8 0) 1 Tryz.underlying38 hi hz0 hz1 hz2 rfl (by decide) Hys.out (by rw [bs_length, Nat.mul_one]) (by have := Hsum.out; unfold maxLen; omega) (by have := Hsum.out; omega) ?_)
          intro v' w' hO'
          rw [← bs_append, ← HS.out] at hO'
          have HO' := Lib.hid (show Own w w' [rowU v' (allOf (PS.take (k + 1)))] by unfold rowU; rw [HS.out, List.length_append, ← HS.out]; exact hO')
          clear hO' Hsum
          go_wp2_with fail
          exact ⟨⟨k + 1, by omega, by go_num, HO'.out⟩, by simp [intOf]; omega⟩
        · obtain rfl : k = PS.length := by omega
          rw [List.take_length] at hO
          have HO := Lib.hid hO
          clear hO
          go_wp2_with fail
          go_ret
          exact ⟨_, rfl, HO.out⟩
end Go.Proofs.YtkhnkidggcjfeaaGreatDoor
end
section
namespace Go.Proofs.YtkhnkidggcjfeaaGreatDoor
open Go.RowKit
open Go.ChangeMaps (setBlock)
theorem Own.unfix {W0 : Base} {w : World} {L : List Rw} {M : Blocks} (h : Own ⟨W0.world, M ++ W0.maps⟩ w L) : Own W0 w L := ⟨h.below, h.rows, h.apart, fun m hm => h.maps m (List.mem_append_right _ hm), fun m hm => h.offmaps m (List.mem_append_right _ hm)⟩
theorem flatO_set (ds : List OpD) (k : Nat) (hk : k < ds.length) (hq : ds[k].q = ⟨#[]⟩) : (ds.map OpD.cells).flatten.set (k * 4 + 2) (.string ⟨#[]⟩) = (ds.map OpD.cells).flatten := by
  have h := flatO ds k 2 hk (by decide)
  have h2 : (ds[k]).cells[2]? = some (.string ⟨#[]⟩) := by rw [← hq]; rfl
  rw [h2] at h
  apply List.ext_getElem?
  intro i
  rw [List.getElem?_set]
  split
  · rename_i e
    subst e
    rw [h, if_pos (by rw [flatO_len]; omega)]
  · rfl
theorem packsD_byts (ops : List (OpD × List Int)) (hk : ∀ o ∈ ops, 0 ≤ o.1.kind ∧ o.1.kind < 4294967296) (hl : ∀ o ∈ ops, o.1.p.size ≤ 100000 ∧ o.1.q.size ≤ 100000 ∧ o.2.length ≤ 100000) (hz : ∀ o ∈ ops, Byts o.2) : Byts (packsD ops) := by
  intro z hzm
  obtain ⟨l, h1, h2⟩ := List.mem_flatten.1 hzm
  obtain ⟨o, ho, rfl⟩ := List.mem_map.1 h1
  obtain ⟨k1, k2⟩ := hk o ho
  obtain ⟨l1, l2, l3⟩ := hl o ho
  have hsb : ∀ s : ByteArray, s.size ≤ 100000 → Byts (sizedL (sb s)) := fun s hs => sizedL_byts _ (sb_byts s) (by rw [sb_length]; omega)
  exact ((le4_byts _ k1 k2).append ((hsb _ l1).append ((hsb _ l2).append (sizedL_byts _ (hz o ho) (by omega))))) z h2
def recO (ops : List (OpD × List Int)) : List Int := 111 :: packsD ops
set_option maxHeartbeats 8000000 in
theorem recordO_any {W0 : Base} {w : World} {L : List Rw} (hO : Own W0 w L) {a : Option Addr} {ops : List (OpD × List Int)} (hP : PackIn W0 L a ops) (cap : Nat) (hn0 : 0 < ops.length) (hn : ops.length ≤ 100000) (hq : ∀ o ∈ ops, o.1.kind = 4 ∨ o.1.kind = 5 ∨ o.1.q = ⟨#[]⟩) :
    Calls Tryz.prog 62 #[.slice a ops.length cap] w fun e w' => ∃ v L1, e = .returned v ∧ Own W0 w' (rowU v (recO ops) :: (L1 ++ L)) := by
  obtain ⟨ds, hds⟩ : ∃ ds, ds = ops.map (·.1) := ⟨_, rfl⟩
  have hdl : ops.length = ds.length := by rw [hds]; simp
  have hcl := cloneOps_any w a ds cap (by omega) (by omega) (fun i h => by
    obtain ⟨g, off, e1, e2⟩ := hP.at_ w L hO (fun x hx => hx) i (by omega)
    refine ⟨g, off, e1, ?_⟩
    have : ds[i] = (ops[i]'(by omega)).1 := by simp [hds]
    rw [this]; exact e2)
  have hqd : ∀ i (h : i < ds.length), (ds[i]).kind = 4 ∨ (ds[i]).kind = 5 ∨ (ds[i]).q = ⟨#[]⟩ := fun i h => by
    have : ds[i] = (ops[i]'(by omega)).1 := by simp [hds]
    rw [this]; exact hq _ (List.getElem_mem _)
  rw [hdl]
  have HP := Lib.hid hP
  have HO := Lib.hid hO
  have Hqd := Lib.hid hqd
  have Hds := Lib.hid hds
  have Hdl := Lib.hid hdl
  have hn2 : ds.length ≤ 100000 := by omega
  have hn3 : 0 < ds.length := by omega
  have hcs := conv_constL
  clear hP hO hqd hds hdl hq hn hn0
  go_enter Tryz.func62, Tryz.ntmps62
  go_wp2_with fail
  refine hcl.mono ?_
  rintro e w1 ⟨v, rfl, hO1⟩
  obtain ⟨g, cp, rfl, _, _, hcp, hcm⟩ := Own.form (h := (show Own w w1 (⟨40, 4, v, ds.length, (ds.map OpD.cells).flatten⟩ :: []) from hO1)) hn3
  have HR0 := Lib.hid (show ∃ L1, Own W0 w1 (rowO (.slice (some ⟨g, 0, none⟩) ds.length cp) ds :: (L1 ++ L)) from ⟨[], HO.out.join hO1⟩)
  unfold maxLen at hcm
  clear hO1 hcl HO
  go_wp2_with fail
  go_loopw [3, 10] (fun f iv wr => ∃ k : Nat, k ≤ ds.length ∧ f = .int .i64 0 ∧ iv = .int .i64 k ∧ ∃ L1, Own W0 wr (rowO (.slice (some ⟨g, 0, none⟩) ds.length cp) ds :: (L1 ++ L))) (fun _ iv _ => ds.length - (intOf iv).toNat)
  case atStart => exact ⟨0, Nat.zero_le _, rfl, rfl, HR0.out⟩
  case round =>
    obtain ⟨k, hk, rfl, rfl, L1, hR⟩ := hrel
    by_cases hkl : k < ds.length
    · have hr : wr.rangeAt g (k * 4) ds[k].cells := fun j u hj => by
        have hj4 : j < 4 := by
          have := (List.getElem?_eq_some_iff.1 hj).1
          exact this
        have := Own.cell (h := (show Own W0 wr (⟨40, 4, .slice (some ⟨g, 0, none⟩) ds.length cp, ds.length, (ds.map OpD.cells).flatten⟩ :: (L1 ++ L)) from hR)) (k * 4 + j) (by omega)
        rw [this, flatO ds k j hkl hj4]; exact hj
      have hqk := Hqd.out k hkl
      have hset := flatO_set ds k hkl
      obtain ⟨o, ho⟩ : ∃ o, o = ds[k] := ⟨_, rfl⟩
      rw [← ho] at hr hqk hset
      have Hr := Lib.hid hr
      have HO := Lib.hid hR
      have Hone := Lib.hid (op_one o)
      have Hset := Lib.hid hset
      have Hqk := Lib.hid hqk
      have hb63 : (k : Int) < (ds.length : Int) := by exact_mod_cast hkl
      clear hr hR ho hset hqk HR0
      go_wp2_with (first
        | (refine wpList_load_mid rfl 40 (.tmp 13) rfl g (k * 4) rfl o.cells _ Hr.out Tryz.underlying40 rfl (info_op _) ?_)
        | (refine wpList_store_new rfl 40 (.tmp 5) (.tmp 14) rfl HO.out o.cells wr.heap.size rfl rfl rfl rfl (info_op _) Hone.out ?_))
      intro w3 hO3 hlt3
      obtain ⟨H, hH⟩ : ∃ H, wr.heap.size = H := ⟨_, rfl⟩
      rw [hH] at hO3 ⊢
      have HO3 := Lib.hid (show Own W0 w3 (boxOp H o :: rowO (.slice (some ⟨g, 0, none⟩) ds.length cp) ds :: (L1 ++ L)) from hO3)
      obtain ⟨q0, q1, q2, q3⟩ := box_cells HO3.out (List.mem_cons_self ..)
      have hfz : w3.frozen? ⟨g, k * 4 + 2, none⟩ = false := Own.free (h := (show Own W0 w3 (⟨40, 4, .slice (some ⟨g, 0, none⟩) ds.length cp, ds.length, (ds.map OpD.cells).flatten⟩ :: (boxOp H o :: (L1 ++ L))) from HO3.out.swap)) _
      have hol : (w3.cell? ⟨g, k * 4 + 2, none⟩) = some (.string o.q) := Hr.out 2 _ rfl ▸ (by
        have := Own.cell (h := (show Own W0 w3 (⟨40, 4, .slice (some ⟨g, 0, none⟩) ds.length cp, ds.length, (ds.map OpD.cells).flatten⟩ :: (boxOp H o :: (L1 ++ L))) from HO3.out.swap)) (k * 4 + 2) (by omega)
        have h2 := Own.cell (h := (show Own W0 wr (⟨40, 4, .slice (some ⟨g, 0, none⟩) ds.length cp, ds.length, (ds.map OpD.cells).flatten⟩ :: (L1 ++ L)) from HO.out)) (k * 4 + 2) (by omega)
        rw [this, ← h2])
      have HE4 := Lib.hid (show ∃ L1', Own W0 w3 (rowO (.slice (some ⟨g, 0, none⟩) ds.length cp) ds :: (L1' ++ L)) from ⟨boxOp H o :: L1, HO3.out.swap⟩)
      have HE5 := Lib.hid (fun hq : o.q = ⟨#[]⟩ => (show ∃ L1', Own W0 (w3.setCell ⟨g, k * 4 + 2, none⟩ (.string ⟨#[]⟩)) (rowO (.slice (some ⟨g, 0, none⟩) ds.length cp) ds :: (L1' ++ L)) from ⟨boxOp H o :: L1, by
        have := Own.set (h := (show Own W0 w3 (⟨40, 4, .slice (some ⟨g, 0, none⟩) ds.length cp, ds.length, (ds.map OpD.cells).flatten⟩ :: (boxOp H o :: (L1 ++ L))) from HO3.out.swap)) (k * 4 + 2) (.string ⟨#[]⟩)
        rw [Hset.out hq] at this
        exact this⟩))
      clear hO3 Hr HO Hone hH hlt3 Hset
      by_cases h4 : o.kind = 4
      · rw [h4] at q0
        go_wp2_with fail
        go_roundw
        case rel => exact ⟨k + 1, by omega, rfl, by go_num, HE4.out⟩
        case measure => simp [intOf]; omega
      · by_cases h5 : o.kind = 5
        · rw [h5] at q0
          go_wp2_with fail
          go_roundw
          case rel => exact ⟨k + 1, by omega, rfl, by go_num, HE4.out⟩
          case measure => simp [intOf]; omega
        · have hq0 : o.q = ⟨#[]⟩ := by rcases Hqk.out with h | h | h
                                       · exact absurd h h4
                                       · exact absurd h h5
                                       · exact h
          rw [hq0] at q2 hol
          have HE6 := Lib.hid (HE5.out hq0)
          have b4 : (o.kind != 4) = true := by simp [h4]
          have b5 : (o.kind != 5) = true := by simp [h5]
          clear HE5 HE4 h4 h5 hq0
          generalize o.kind = κ at *
          go_wp2_with fail
          go_roundw
          case rel => exact ⟨k + 1, by omega, rfl, by go_num, HE6.out⟩
          case measure => simp [intOf]; omega
    · have hke : k = ds.length := by omega
      subst hke
      have hO1 := hR.fix (litB 111)
      have hO2 := hO1.fix (litB 45)
      have e1 : (wr.alloc (litB 111)).heap.size = wr.heap.size + 1 := by simp
      rw [e1] at hO2
      have hO3 := hO2.alloc (.cells #[] 5)
      have e2 : ((wr.alloc (litB 111)).alloc (litB 45)).heap.size = wr.heap.size + 2 := by simp
      have hrp := repeat_zero ((wr.alloc (litB 111)).alloc (litB 45)) (.slice (some ⟨wr.heap.size + 1, 0, none⟩) 1 1)
      rw [e2] at hrp
      have hm1 : (wr.heap.size, litB 111) ∈ (wr.heap.size + 1, litB 45) :: (wr.heap.size, litB 111) :: W0.maps := List.mem_cons_of_mem _ (List.mem_cons_self ..)
      have hb63 : ¬ ((ds.length : Int) < (ds.length : Int)) := Int.lt_irrefl _
      obtain ⟨w4, hw4⟩ : ∃ w4, w4 = (((wr.alloc (litB 111)).alloc (litB 45)).alloc (.cells #[] 5)) := ⟨_, rfl⟩
      rw [← hw4] at hO3 hrp
      obtain ⟨n0, hn0⟩ : ∃ n0, n0 = wr.heap.size := ⟨_, rfl⟩
      have hpk := pack_ops (W0 := ⟨W0.world, (wr.heap.size + 1, litB 45) :: (wr.heap.size, litB 111) :: W0.maps⟩) (w := w4) (L := rowO (.slice (some ⟨g, 0, none⟩) ds.length cp) ds :: (L1 ++ L)) hO3 (a := some ⟨g, 0, none⟩) (ops := ops) ⟨fun w' L' k1 k2 i hi => ⟨g, 0, rfl, fun j u hj => by
          have hj4 : j < 4 := by
            have := (List.getElem?_eq_some_iff.1 hj).1
            exact this
          have hil : i < ds.length := by rw [← Hdl.out]; exact hi
          have h6 := Own.cell (h := (show Own _ w' (⟨40, 4, .slice (some ⟨g, 0, none⟩) ds.length cp, ds.length, (ds.map OpD.cells).flatten⟩ :: []) from k1.only (k2 _ (List.mem_cons_self ..)))) (i * 4 + j) (by omega)
          rw [Nat.zero_add, h6, flatO ds i j hil hj4]
          have : ds[i] = (ops[i]).1 := by simp [Hds.out]
          rw [this]; exact hj⟩,
        fun w' L' k1 k2 o ho => HP.out.data w' L' (Own.unfix (M := [(wr.heap.size + 1, litB 45), (wr.heap.size, litB 111)]) k1) (fun x hx => k2 x (List.mem_cons_of_mem _ (List.mem_append_right _ hx))) o ho, HP.out.kind, HP.out.len⟩ cp (by rw [Hdl.out]; exact hn2)
      rw [Hdl.out] at hpk
      have hpl := packsD_len ops HP.out.len
      rw [Hdl.out] at hpl
      have hcat := fun (w5 : World) (vp : Value) (L2 : List Rw) (h5 : Own ⟨W0.world, (wr.heap.size + 1, litB 45) :: (wr.heap.size, litB 111) :: W0.maps⟩ w5 (rowU vp (packsD ops) :: (L2 ++ rowO (.slice (some ⟨g, 0, none⟩) ds.length cp) ds :: (L1 ++ L)))) (hbz : Byts (packsD ops)) =>
        concat_anyB (some ⟨w5.heap.size, 0, none⟩) 3 [(.slice (some ⟨wr.heap.size, 0, none⟩) 1 1, [111]), (.slice (some ⟨wr.heap.size + 2, 0, none⟩) 0 0, []), (vp, packsD ops)] (w5.alloc (.cells #[.slice (some ⟨wr.heap.size, 0, none⟩) 1 1, .slice (some ⟨wr.heap.size + 2, 0, none⟩) 0 0, vp] 38)) (fun i hi => by
          have h6 := h5.alloc (.cells #[.slice (some ⟨wr.heap.size, 0, none⟩) 1 1, .slice (some ⟨wr.heap.size + 2, 0, none⟩) 0 0, vp] 38)
          refine ⟨w5.heap.size, 0, rfl, ?_, ?_⟩
          · rw [Nat.zero_add, World.cell?_alloc_new]
            match i, hi with
            | 0, _ => rfl
            | 1, _ => rfl
            | 2, _ => rfl
            | n + 3, h => exact absurd h (by simp)
          · match i, hi with
            | 0, _ => exact lit_by (h6.maps _ hm1).2 (by decide) (by decide)
            | 1, _ => exact ⟨.inr ⟨_, _, rfl, fun j u hj => by simp [bs] at hj, fun u hu => by cases hu⟩, Byts.nil, _, _, rfl, by simp, by unfold maxLen; omega⟩
            | 2, _ => exact h6.by hbz
            | n + 3, h => exact absurd h (by simp)) (by unfold maxLen; simp) (by simp [allOf]; omega)
      have Hcat := Lib.hid hcat
      have Hall := Lib.hid (show Own W0 w4 ((rowO (.slice (some ⟨g, 0, none⟩) ds.length cp) ds :: L1) ++ L) from Own.unfix (M := [(wr.heap.size + 1, litB 45), (wr.heap.size, litB 111)]) hO3)
      have hcs1 := conv_constL wr #[.int .u8 111] 1 1
      have hcs2 := conv_constL (wr.alloc (.cells #[.int .u8 111] 5 (1, 2))) #[.int .u8 45] 1 1
      have e3 : (wr.alloc (.cells #[.int .u8 111] 5 (1, 2))).heap.size = wr.heap.size + 1 := by simp
      rw [e3] at hcs2
      clear hcat hpl hO1 hO2 hO3 hR HR0 e1 e2 e3 hm1 hcs
      change Calls Tryz.prog 106 #[.slice (some ⟨wr.heap.size + 1, 0, none⟩) 1 1, .int .i64 0] ((wr.alloc (.cells #[.int .u8 111] 5 (1, 2))).alloc (.cells #[.int .u8 45] 5 (1, 2))) _ at hrp
      go_wp2_with fail
      refine hrp.mono ?_
      rintro e w' ⟨rfl, hw5⟩
      have hw6 : w' = w4 := hw5.trans (by first | rfl | exact hw4.symm)
      subst hw6
      clear hw5 hw4 hcs1 hcs2
      go_wp2_with fail
      refine hpk.mono ?_
      rintro e w5 ⟨vp, L2, rfl, hO5⟩
      obtain ⟨pa, pn, pc, rfl⟩ := hO5.formU
      have hbz : Byts (packsD ops) := packsD_byts ops HP.out.kind HP.out.len fun o ho => ((HP.out.data _ _ Hall.out (fun x hx => List.mem_append_right _ hx)) o ho).2.1
      have hc5 := Hcat.out w5 (.slice pa pn pc) L2 hO5 hbz
      have HO5 := Lib.hid hO5
      clear hrp hpk hO5
      go_wp2_with fail
      refine hc5.mono ?_
      rintro e w6 ⟨vr, rfl, hO6⟩
      have hO7 := (HO5.out.alloc (.cells #[.slice (some ⟨wr.heap.size, 0, none⟩) 1 1, .slice (some ⟨wr.heap.size + 2, 0, none⟩) 0 0, (.slice pa pn pc)] 38)).join hO6
      have hal : allOf [(.slice (some ⟨wr.heap.size, 0, none⟩) 1 1, [111]), (.slice (some ⟨wr.heap.size + 2, 0, none⟩) 0 0, []), (.slice pa pn pc, packsD ops)] = recO ops := by simp [allOf, recO]
      rw [hal] at hO7
      have HP2 := Lib.hid (show Own W0 w6 (rowU vr (recO ops) :: ((rowU (.slice pa pn pc) (packsD ops) :: (L2 ++ rowO (.slice (some ⟨g, 0, none⟩) ds.length cp) ds :: L1)) ++ L)) from Own.unfix (M := [(wr.heap.size + 1, litB 45), (wr.heap.size, litB 111)]) (by simpa using hO7))
      clear hO7 hal hO6 hc5 HO5 Hall Hcat
      go_wp2_with fail
      go_ret
      exact ⟨_, _, rfl, HP2.out⟩
end Go.Proofs.YtkhnkidggcjfeaaGreatDoor
end
section
namespace Go.Proofs.YtkhnkidggcjfeaaGreatDoor
open Go.RowKit
open Go.ChangeMaps (setBlock)
def ENd.loose (n : ENd) : Bool := !n.dir && (n.places == 0)
def reap1 (E : Et) (i : Int) : Et := match look E.nodes i with
  | some n => if n.loose = true then { E with nodes := del E.nodes i } else E
  | none => E
def reapE (E : Et) (ids : List Int) : Et := ids.foldl reap1 E
theorem reapE_snoc (E : Et) (ids : List Int) (i : Int) : reapE E (ids ++ [i]) = reap1 (reapE E ids) i := by
  unfold reapE
  rw [List.foldl_append]; rfl
theorem Inv.reap {E : Et} {B : Nat} (h : Inv E B) {i : Int} {f : ENd} (hi : look E.nodes i = some f) (hf : f.loose = true) : i ≠ 1 ∧ refs E.nodes i = 0 ∧ Inv { E with nodes := del E.nodes i } B := by
  have hd : f.dir = false := by
    unfold ENd.loose at hf
    cases hd : f.dir with
    | false => rfl
    | true => rw [hd] at hf; simp at hf
  have hp : f.places = 0 := by
    unfold ENd.loose at hf
    rw [hd] at hf
    simpa using hf
  obtain ⟨hk, hr⟩ := h.file i f hi hd
  have hr0 : refs E.nodes i = 0 := by rw [hp] at hr; omega
  have hi1 : i ≠ 1 := fun e => by
    obtain ⟨n, h1, h2⟩ := h.root
    rw [e, h1] at hi
    injection hi with hi
    rw [hi, hd] at h2; cases h2
  refine ⟨hi1, hr0, ?_⟩
  have k2 : ((del E.nodes i).map (·.1)).Nodup := h.keys.sublist ((del_sub _ i).map _)
  have hlk : ∀ x, look (del E.nodes i) x = if x = i then none else look E.nodes x := fun x => by
    by_cases e : x = i
    · rw [if_pos e, e, look_del_same h.keys]
    · rw [if_neg e, look_del_ne e]
  have hsum := fun g => sum_del h.keys hi g
  have hrefs : ∀ x, refs (del E.nodes i) x = refs E.nodes x := fun x => by
    have h1 := hsum fun n => inK n.kids x
    have h5 : inK f.kids x = 0 := by rw [hk]; rfl
    unfold refs
    try simp only at h1
    omega
  have hlen := (del_sub E.nodes i).length_le
  have hnew : ∀ x n, look (del E.nodes i) x = some n → x ≠ i ∧ look E.nodes x = some n := fun x n hn => by
    rw [hlk] at hn
    by_cases e0 : x = i
    · rw [if_pos e0] at hn; cases hn
    · rw [if_neg e0] at hn; exact ⟨e0, hn⟩
  have hold : ∀ x n, x ≠ i → look E.nodes x = some n → look (del E.nodes i) x = some n := fun x n e hn => by rw [hlk, if_neg e]; exact hn
  generalize hM : del E.nodes i = M at *
  refine ⟨k2, ?_, fun x n hn q hq => ?_, fun x n hn => h.names x n (hnew x n hn).2, fun x n hn hd => ?_, fun x n hn hd hx1 => ?_, ?_, fun x n hn => h.low x n (hnew x n hn).2, fun x n hn => h.small x n (hnew x n hn).2, ?_, h.nx, ?_, by show M.length ≤ _; have := h.len; omega⟩
  · obtain ⟨n, h1, h2⟩ := h.root
    exact ⟨n, hold _ _ (Ne.symm hi1) h1, h2⟩
  · obtain ⟨m, h4, h5⟩ := h.kids x n (hnew x n hn).2 q hq
    exact ⟨m, hold _ _ (refs_zero hr0 (look_mem (hnew x n hn).2) hq) h4, h5⟩
  · show n.kids = [] ∧ n.places = (refs M x : Int)
    rw [hrefs]
    exact h.file x n (hnew x n hn).2 hd
  · show refs M x = 1
    rw [hrefs]
    exact h.dirs x n (hnew x n hn).2 hd hx1
  · show refs M 1 = 0
    rw [hrefs]
    exact h.top
  · have h1 := hsum fun n => n.kids.length
    have h4 := h.ents
    unfold Go.Proofs.YtkhnkidggcjfeaaGreatDoor.ents at h4 ⊢
    try simp only at h1
    show (M.map _).sum ≤ _
    omega
  · have h1 := hsum fun n => n.data.length
    have h4 := h.sum
    unfold sumE at h4 ⊢
    try simp only at h1
    show (M.map _).sum ≤ _
    omega
theorem reap1_inv {E : Et} {B : Nat} (h : Inv E B) (i : Int) : Inv (reap1 E i) B := by
  unfold reap1
  cases hi : look E.nodes i with
  | none => exact h
  | some n =>
    simp only
    split
    · rename_i hl; exact (h.reap hi hl).2.2
    · exact h
theorem reapE_inv {E : Et} {B : Nat} (ids : List Int) (h : Inv E B) : Inv (reapE E ids) B := by
  induction ids generalizing E with
  | nil => exact h
  | cons i r ih => exact ih (reap1_inv h i)
theorem Rep.del {T : Tr} {E : Et} (h : Rep T E) (hd : (T.nodes.map (·.1)).Nodup) (i : Int) : Rep { T with nodes := Go.Proofs.YtkhnkidggcjfeaaGreatDoor.del T.nodes i } { E with nodes := Go.Proofs.YtkhnkidggcjfeaaGreatDoor.del E.nodes i } :=
  ⟨h.quota, h.next, by
    show (erL (Go.Proofs.YtkhnkidggcjfeaaGreatDoor.del T.nodes i)).Perm _
    unfold erL
    rw [del_map Nd.er]
    exact del_perm h.nodes (by show ((erL T.nodes).map (·.1)).Nodup; rw [erL_keys]; exact hd) i⟩
theorem Rep.noKid {T : Tr} {E : Et} (h : Rep T E) {i : Int} (hr : refs E.nodes i = 0) : ∀ p ∈ T.nodes, ∀ q ∈ p.2.kids, q.2 ≠ i := fun p hp q hq =>
  refs_zero hr (p := (p.1, p.2.er)) (h.nodes.subset (er_mem hp)) hq
def ReapRel (w0 : World) (S : Blocks) (L : List Rw) (t : Nat) (T : Tr) (w : World) (E : Et) (B : Nat) (wr : World) : Prop :=
  ∃ S' T', Own ⟨w0, S'⟩ wr L ∧ Tree S' (Pc L) t T' ∧ Frame S S' (t :: T.foot) (t :: T'.foot) w.heap.size ∧ Rep T' E ∧ Inv E B
set_option maxHeartbeats 4000000 in
theorem reap_any {w0 w : World} {S : Blocks} {L : List Rw} {t : Nat} {T : Tr} {E : Et} {B : Nat} (hO : Own ⟨w0, S⟩ w L) (H : Tree S (Pc L) t T) (hR : Rep T E) (I : Inv E B) (a : Option Addr) (ids : List Int) (c : Nat) (hn : ids.length ≤ 1000000)
    (hid : ∀ w' S', Own ⟨w0, S'⟩ w' L → (∀ b x, (b, x) ∈ S → b ∉ t :: T.foot → (b, x) ∈ S') → ∀ i (h : i < ids.length), ∃ g o, a = some ⟨g, o, none⟩ ∧ w'.cell? ⟨g, o + i, none⟩ = some (.int .i64 ids[i])) :
    Calls Tryz.prog 31 #[.pointer (some ⟨t, 0, none⟩), .slice a ids.length c] w (DoL w0 S L t T w (fun T' => Rep T' (reapE E ids)) (.tuple #[])) := by
  have hlt : ∀ b x, (b, x) ∈ S → b < w.heap.size := fun b x hb => (hO.atLt hb).2
  have HR0 := Lib.hid (show ReapRel w0 S L t T w (reapE E (ids.take 0)) B w from ⟨S, T, hO, H, Frame.refl S _ _, by rw [List.take_zero]; exact hR, by rw [List.take_zero]; exact I⟩)
  have Hid := Lib.hid hid
  clear hid hO H hR I
  go_enter Tryz.func31, Tryz.ntmps31
  go_wp2_with fail
  go_loopw [9] (fun iv wr => ∃ k : Nat, k ≤ ids.length ∧ iv = .int .i64 k ∧ ReapRel w0 S L t T w (reapE E (ids.take k)) B wr) (fun iv _ => ids.length - (intOf iv).toNat)
  case atStart => exact ⟨0, Nat.zero_le _, rfl, HR0.out⟩
  case round =>
    obtain ⟨k, hk, rfl, S1, T1, k1, k2, k3, k4, k5⟩ := hrel
    by_cases hkl : k < ids.length
    · obtain ⟨g, o, rfl, hc⟩ := Hid.out wr S1 k1 (fun b x hb hnb => k3.kept b x hb hnb) k hkl
      have hsn : reapE E (ids.take (k + 1)) = reap1 (reapE E (ids.take k)) ids[k] := by
        rw [List.take_succ_eq_append_getElem hkl, reapE_snoc]
      obtain ⟨i, hi⟩ : ∃ i, i = ids[k] := ⟨_, rfl⟩
      rw [← hi] at hc hsn
      have d2 := (k2.at_.inWorld k1).at0.2.2
      have hl := (k2.at_.inWorld k1).look i
      have hle := k4.look k2.good.keys i
      have hb63 : (k : Int) < (ids.length : Int) := by exact_mod_cast hkl
      have hb0 : (0 : Int) ≤ (k : Int) := by omega
      obtain ⟨E1, hE1⟩ : ∃ E1, E1 = reapE E (ids.take k) := ⟨_, rfl⟩
      rw [← hE1] at hsn hle k4 k5
      cases hlk : look T1.nodes i with
      | none =>
        rw [hlk] at hl hle
        dsimp only [ptrOf] at hl
        have hE2 : reap1 E1 i = E1 := by unfold reap1; rw [← hle]; rfl
        have HR := Lib.hid (show ReapRel w0 S L t T w (reapE E (ids.take (k + 1))) B wr from ⟨S1, T1, k1, k2, k3, by rw [hsn, hE2]; exact k4, by rw [hsn, hE2]; exact k5⟩)
        clear k1 k2 k3 k4 k5 hle hsn hE2 hi hE1 hlk HR0 Hid
        go_wp2_with fail
        go_roundw
        case rel => exact ⟨k + 1, by omega, by go_num, HR.out⟩
        case measure => simp [intOf]; omega
      | some n =>
        rw [hlk] at hl hle
        dsimp only [ptrOf] at hl
        have hlo := loose_any ((k2.at_.inWorld k1).node _ (look_mem hlk))
        have hle2 : look E1.nodes i = some n.er := hle.symm
        have hnl : n.er.loose = n.loose := rfl
        cases hlz : n.loose with
        | false =>
          rw [hlz] at hlo
          have hE2 : reap1 E1 i = E1 := by unfold reap1; rw [hle2]; simp only; rw [if_neg (by rw [hnl, hlz]; simp)]
          have HR := Lib.hid (show ReapRel w0 S L t T w (reapE E (ids.take (k + 1))) B wr from ⟨S1, T1, k1, k2, k3, by rw [hsn, hE2]; exact k4, by rw [hsn, hE2]; exact k5⟩)
          clear k1 k2 k3 k4 k5 hle hle2 hsn hE2 hi hE1 hlk HR0 Hid hlz hnl
          go_wp2_with (go_at_call 65; refine hlo.mono ?_; rintro e w' ⟨rfl, rfl⟩)
          go_roundw
          case rel => exact ⟨k + 1, by omega, by go_num, HR.out⟩
          case measure => simp [intOf]; omega
        | true =>
          rw [hlz] at hlo
          have hlE : n.er.loose = true := hnl.trans hlz
          obtain ⟨hi1, hr0, hI2⟩ := k5.reap hle2 hlE
          have hE2 : reap1 E1 i = { E1 with nodes := del E1.nodes i } := by unfold reap1; rw [hle2]; simp only; rw [if_pos hlE]
          obtain ⟨o1, g1, g2⟩ := k2.at_.map
          obtain ⟨o2, hdel, hm2⟩ := g2.delete (w := wr) kindsI Tryz.underlying80 (k1.at g1) i 0
          have H2 := k2.delN hi1 (k4.noKid hr0) hm2
          have hO2 := k1.setB g1 o2
          have hR2 := k4.del k2.good.keys i
          have hfr : Frame S (upd S1 T1.bm o2) (t :: T.foot) (t :: ({ T1 with nodes := del T1.nodes i } : Tr).foot) w.heap.size := by
            refine ⟨fun b x hb hnb => ?_, fun b hb => k3.fresh b ?_⟩
            · refine upd_other (k3.kept b x hb hnb) (fun e => ?_) _
              have : T1.bm ∈ t :: T1.foot := List.mem_cons_of_mem _ (List.mem_cons_self ..)
              rcases k3.fresh _ this with h7 | h7
              · rw [← e] at h7; exact hnb h7
              · exact absurd h7 (by rw [← e]; exact Nat.not_le.2 (hlt b x hb))
            · exact ((List.Sublist.cons_cons _ (flat_sub (del_sub T1.nodes i))).cons_cons _).subset hb
          have HR := Lib.hid (show ReapRel w0 S L t T w (reapE E (ids.take (k + 1))) B (setBlock wr T1.bm o2) from ⟨_, _, hO2, H2, hfr, by rw [hsn, hE2]; exact hR2, by rw [hsn, hE2]; exact hI2⟩)
          clear k1 k2 k3 k4 k5 hle hle2 hsn hE2 hi hE1 hlk HR0 Hid hlz hnl hlE hi1 hr0 hI2 g1 g2 hm2 H2 hO2 hR2 hfr
          go_wp2_with (go_at_call 65; refine hlo.mono ?_; rintro e w' ⟨rfl, rfl⟩)
          go_roundw
          case rel => exact ⟨k + 1, by omega, by go_num, HR.out⟩
          case measure => simp [intOf]; omega
    · have hke : k = ids.length := by omega
      subst hke
      rw [List.take_length] at k4
      have HP := Lib.hid (show DoL w0 S L t T w (fun T' => Rep T' (reapE E ids)) (.tuple #[]) (.returned (.tuple #[])) wr from ⟨S1, L, T1, rfl, k1, fun _ h => h, k2, k3, k4⟩)
      have hb63 : ¬ ((ids.length : Int) < (ids.length : Int)) := Int.lt_irrefl _
      clear k1 k2 k3 k4 k5 HR0 Hid
      go_wp2_with fail
      go_end0
      exact HP.out
end Go.Proofs.YtkhnkidggcjfeaaGreatDoor
end
section
namespace Go.Proofs.YtkhnkidggcjfeaaGreatDoor
open Go.RowKit
open Go.ChangeMaps (setBlock)
def heldN (m : List (Int × Int)) (i : Int) : Int := (look m i).getD 0
theorem zeroIntW (w : World) : (zeroValue 3).run Tryz.prog w = .ok (.int .i64 0) w := by kernel_rfl
section
variable {w0 w w' : World} {S S' : Blocks} {R L L' M : List Rw} {v : Nat} {X X' : VX} {T T' : Tr} {K : Blocks}
theorem VolIn.atV (h : VolIn w0 S R L v X T w) : (w.cell? ⟨v, 0, none⟩ = some (.pointer (some ⟨X.t, 0, none⟩)) ∧ w.cell? ⟨v, 1, none⟩ = some (.pointer (some ⟨X.d, 0, none⟩)) ∧ w.cell? ⟨v, 2, none⟩ = some (.pointer (some ⟨X.l, 0, none⟩)) ∧ w.cell? ⟨v, 3, none⟩ = some (.map (some X.hm)) ∧ w.cell? ⟨v, 4, none⟩ = some (.bool false)) ∧ w.frozen? ⟨v, 4, none⟩ = false := by
  refine ⟨⟨?_, ?_, ?_, ?_, ?_⟩, free_at (h.own.at h.cells) 4⟩ <;> exact h.own.cellB h.cells _
theorem VolIn.heldAt (h : VolIn w0 S R L v X T w) (i : Int) : (Instr.lookup 52 (.map (some X.hm)) (.int .i64 i) false).run Tryz.prog w = .ok (.int .i64 (heldN X.held i)) w := by
  obtain ⟨o, h1, h2⟩ := h.map
  have := MapO.lookup kindsI Tryz.underlying52 (zeroIntW w) h2 (h.own.at h1) i false
  have e := look_map (fun i : Int => Value.int .i64 i) X.held i
  rw [show heldV X.held = X.held.map fun p => (p.1, (fun i : Int => Value.int .i64 i) p.2) from rfl, e] at this
  rw [this]
  unfold heldN
  cases look X.held i <;> rfl
theorem held_any (h : VolIn w0 S R L v X T w) (i : Int) : Calls Tryz.prog 35 #[.pointer (some ⟨v, 0, none⟩), .int .i64 i] w fun e w' => e = .returned (.int .i64 (heldN X.held i)) ∧ w = w' := by
  obtain ⟨⟨c0, c1, c2, c3, c4⟩, f4⟩ := h.atV
  have hl := h.heldAt i
  clear h c0 c1 c2 c4 f4
  go_enter Tryz.func35, Tryz.ntmps35
  go_wp2_with fail
  go_ret
  exact ⟨rfl, rfl⟩
theorem VolIn.still (h : VolIn w0 S R L v X T w) : VolIn w0 S R L v X T (w.setCell ⟨v, 4, none⟩ (.bool false)) := by
  have h1 := h.own.storeB h.cells 4 (.bool false)
  have e : (volCells X).setIfInBounds 4 (.bool false) = volCells X := rfl
  rw [e, h.own.upd_same' h.cells] at h1
  exact { h with own := h1 }
theorem dead_any (h : VolIn w0 S R L v X T w) : Calls Tryz.prog 27 #[.pointer (some ⟨v, 0, none⟩)] w fun e w' => e = .returned (.bool false) ∧ VolIn w0 S R L v X T w' ∧ w'.heap.size = w.heap.size := by
  obtain ⟨⟨c0, c1, c2, c3, c4⟩, f4⟩ := h.atV
  obtain ⟨L', hd⟩ := h.lg.disk
  have hdn := down_any _ _ _ _ _ hd
  rw [h.live.up] at hdn
  have HP := Lib.hid h.still
  have HS := Lib.hid (show (w.setCell ⟨v, 4, none⟩ (.bool false)).heap.size = w.heap.size by simp)
  clear h hd c0 c2 c3
  go_enter Tryz.func27, Tryz.ntmps27
  go_wp2_with (go_at_call 57; refine hdn.mono ?_; rintro e w' ⟨rfl, rfl⟩)
  go_ret
  exact ⟨rfl, HP.out, HS.out⟩
theorem VolIn.find (h : VolIn w0 S R L v X T w) (hm : Mx w0) (s : ByteArray) (hs : s.size ≤ maxLen) :
    Calls Tryz.prog 42 #[.pointer (some ⟨X.t, 0, none⟩), .string s] w fun e w' => e = .returned (.tuple #[.int .i64 ((findX X.E s.data.toList).getD 0), .bool (findX X.E s.data.toList).isSome]) ∧ Below w.heap.size w w' := by
  have hf := find_any h.treeW h.tree.good s hs (hm.later h.below)
  have e : findT T s.data.toList = findX X.E s.data.toList := by
    unfold findT findX
    rw [h.rep.walk h.tree.good.keys]
  rw [e] at hf
  exact hf
def dirX (E : Et) (l : List UInt8) : Bool := match (findX E l).bind fun i => look E.nodes i with
  | some n => n.dir
  | none => false
theorem VolIn.dir (h : VolIn w0 S R L v X T w) (hm : Mx w0) (s : ByteArray) (hs : s.size ≤ maxLen) :
    Calls Tryz.prog 269 #[.pointer (some ⟨X.t, 0, none⟩), .string s] w fun e w' => e = .returned (.bool (dirX X.E s.data.toList)) ∧ Below w.heap.size w w' := by
  have hf := isdir_any h.treeW h.tree.good s hs (hm.later h.below)
  have e : dirT T s.data.toList = dirX X.E s.data.toList := by
    unfold dirT dirX standT
    have e1 : findT T s.data.toList = findX X.E s.data.toList := by
      unfold findT findX
      rw [h.rep.walk h.tree.good.keys]
    rw [← e1]
    cases h1 : findT T s.data.toList with
    | none => rfl
    | some i =>
      simp only [Option.bind_some]
      rw [← h.rep.look h.tree.good.keys i]
      cases look T.nodes i <;> rfl
  rw [e] at hf
  exact hf
theorem VolIn.put (h : VolIn w0 S R L v X T w) (i n : Int) : ∃ o o', (X.hm, o) ∈ S ∧ (Instr.mapUpdate 52 (.map (some X.hm)) (.int .i64 i) (.int .i64 n)).run Tryz.prog w = .ok () (setBlock w X.hm o') ∧ VolIn w0 (upd S X.hm o') R L v { X with held := put X.held i n } T (setBlock w X.hm o') := by
  obtain ⟨o, h1, h2⟩ := h.map
  obtain ⟨o', h3, h4⟩ := h2.update kindsI Tryz.underlying52 (h.own.at h1) i (.int .i64 n)
  have e : Go.Proofs.YtkhnkidggcjfeaaGreatDoor.put (heldV X.held) i (.int .i64 n) = heldV (Go.Proofs.YtkhnkidggcjfeaaGreatDoor.put X.held i n) := by
    unfold heldV
    induction X.held with
    | nil => rfl
    | cons p r ih =>
      simp only [List.map_cons]
      unfold Go.Proofs.YtkhnkidggcjfeaaGreatDoor.put
      by_cases hp : p.1 = i
      · rw [if_pos hp, if_pos hp]; rfl
      · rw [if_neg hp, if_neg hp, List.map_cons, ih]
  rw [e] at h4
  exact ⟨o, o', h1, h3, h.held' h1 h4⟩
theorem upd_to {X2 : VX} {o' : Obj} {n : Nat} (h2 : VolIn w0 (upd S X.hm o') R L v X2 T w') (ht : X2.t = X.t) (hh : X2.hm = X.hm) : VolTo w0 S L v X T n X2 w' :=
  ⟨_, R, L, T, h2, fun _ h => h, fun b x hb hn => upd_other hb (fun e => hn (e ▸ List.mem_cons_of_mem _ (List.mem_cons_self ..))) _, fun _ h => .inl h, ht, hh⟩
set_option maxHeartbeats 1000000 in
theorem hold_yes (h : VolIn w0 S R L v X T w) (hm : Mx w0) (s : ByteArray) (hs : s.size ≤ maxLen) {i : Int} (hf : findX X.E s.data.toList = some i) (hd : dirX X.E s.data.toList = false) {m : Int} (hmq : heldN X.held i = m) (hb : -1000000 ≤ m ∧ m ≤ 1000000) :
    Calls Tryz.prog 267 #[.pointer (some ⟨v, 0, none⟩), .string s] w fun e w' => e = .returned (.tuple #[.int .i64 i, .int .i64 0]) ∧ VolTo w0 S L v X T w.heap.size { X with held := put X.held i (m + 1) } w' := by
  have hfd := h.find hm s hs
  rw [hf] at hfd
  dsimp only [Option.getD_some, Option.isSome_some] at hfd
  obtain ⟨⟨c0, c1, c2, c3, c4⟩, f4⟩ := h.atV
  have H := Lib.hid h
  have Hb := Lib.hid hb
  have Hd := Lib.hid hd
  clear h c1 c2 c3 c4 f4 hb hd hf
  go_enter Tryz.func267, Tryz.ntmps267
  go_wp2_with fail
  refine hfd.mono ?_
  rintro e w1 ⟨rfl, hb1⟩
  have h1 := H.out.later hb1
  have hdr := h1.dir hm s hs
  rw [Hd.out] at hdr
  obtain ⟨⟨c0', c1, c2, c3, c4⟩, f4⟩ := h1.atV
  have H1 := Lib.hid h1
  clear h1 hfd c0 c1 c2 c3 c4 f4 hb1
  go_wp2_with fail
  refine hdr.mono ?_
  rintro e w2 ⟨rfl, hb2⟩
  have h2 := H1.out.later hb2
  obtain ⟨⟨c0, c1, c2, c3, c4⟩, f4⟩ := h2.atV
  have hl := h2.heldAt i
  rw [hmq] at hl
  obtain ⟨o, o', _, hup, h3⟩ := h2.put i (m + 1)
  have HP := Lib.hid (show VolTo w0 S L v X T w.heap.size { X with held := put X.held i (m + 1) } (setBlock w2 X.hm o') from upd_to h3 rfl rfl)
  have hw : (-1000000 : Int) ≤ m ∧ m ≤ 1000000 := Hb.out
  clear h2 h3 hdr hb2 c0 c0' c1 c2 c4 f4 hmq
  go_wp2_with fail
  go_ret2
  exact ⟨rfl, HP.out⟩
theorem hold_none (h : VolIn w0 S R L v X T w) (hm : Mx w0) (s : ByteArray) (hs : s.size ≤ maxLen) (hf : findX X.E s.data.toList = none) :
    Calls Tryz.prog 267 #[.pointer (some ⟨v, 0, none⟩), .string s] w fun e w' => e = .returned (.tuple #[.int .i64 0, .int .i64 8]) ∧ VolIn w0 S R L v X T w' ∧ w.heap.size ≤ w'.heap.size := by
  have hfd := h.find hm s hs
  rw [hf] at hfd
  dsimp only [Option.getD_none, Option.isSome_none] at hfd
  obtain ⟨⟨c0, c1, c2, c3, c4⟩, f4⟩ := h.atV
  have H := Lib.hid h
  clear h c1 c2 c3 c4 f4 hf
  go_enter Tryz.func267, Tryz.ntmps267
  go_wp2_with fail
  refine hfd.mono ?_
  rintro e w1 ⟨rfl, hb1⟩
  have HP := Lib.hid (And.intro (H.out.later hb1) hb1.size)
  clear hb1 hfd
  go_wp2_with fail
  go_ret2
  exact ⟨rfl, HP.out⟩
theorem hold_dir (h : VolIn w0 S R L v X T w) (hm : Mx w0) (s : ByteArray) (hs : s.size ≤ maxLen) {i : Int} (hf : findX X.E s.data.toList = some i) (hd : dirX X.E s.data.toList = true) :
    Calls Tryz.prog 267 #[.pointer (some ⟨v, 0, none⟩), .string s] w fun e w' => e = .returned (.tuple #[.int .i64 0, .int .i64 10]) ∧ VolIn w0 S R L v X T w' ∧ w.heap.size ≤ w'.heap.size := by
  have hfd := h.find hm s hs
  rw [hf] at hfd
  dsimp only [Option.getD_some, Option.isSome_some] at hfd
  obtain ⟨⟨c0, c1, c2, c3, c4⟩, f4⟩ := h.atV
  have H := Lib.hid h
  have Hd := Lib.hid hd
  clear h c1 c2 c3 c4 f4 hf hd
  go_enter Tryz.func267, Tryz.ntmps267
  go_wp2_with fail
  refine hfd.mono ?_
  rintro e w1 ⟨rfl, hb1⟩
  have h1 := H.out.later hb1
  have hdr := h1.dir hm s hs
  rw [Hd.out] at hdr
  obtain ⟨⟨c0', c1, c2, c3, c4⟩, f4⟩ := h1.atV
  have hsz := hb1.size
  have H1 := Lib.hid h1
  clear h1 hfd c0 c1 c2 c3 c4 f4 hb1
  go_wp2_with fail
  refine hdr.mono ?_
  rintro e w2 ⟨rfl, hb2⟩
  have HP := Lib.hid (And.intro (H1.out.later hb2) (Nat.le_trans hsz hb2.size))
  clear hb2 hdr hsz c0'
  go_wp2_with fail
  go_ret2
  exact ⟨rfl, HP.out⟩
theorem let_none (h : VolIn w0 S R L v X T w) (i : Int) (hz : heldN X.held i = 0) :
    Calls Tryz.prog 268 #[.pointer (some ⟨v, 0, none⟩), .int .i64 i] w fun e w' => e = .returned (.int .i64 8) ∧ w = w' := by
  obtain ⟨⟨c0, c1, c2, c3, c4⟩, f4⟩ := h.atV
  have hl := h.heldAt i
  rw [hz] at hl
  clear h c0 c1 c2 c4 f4 hz
  go_enter Tryz.func268, Tryz.ntmps268
  go_wp2_with fail
  go_ret
  exact ⟨rfl, rfl⟩
theorem let_more (h : VolIn w0 S R L v X T w) (i : Int) {m : Int} (hmq : heldN X.held i = m) (hz : 1 < m) (hb : m ≤ 1000000) :
    Calls Tryz.prog 268 #[.pointer (some ⟨v, 0, none⟩), .int .i64 i] w fun e w' => e = .returned (.int .i64 0) ∧ VolTo w0 S L v X T w.heap.size { X with held := put X.held i (m - 1) } w' := by
  obtain ⟨⟨c0, c1, c2, c3, c4⟩, f4⟩ := h.atV
  have hl := h.heldAt i
  obtain ⟨o, o', _, hup, h3⟩ := h.put i (m - 1)
  have HP := Lib.hid (show VolTo w0 S L v X T w.heap.size { X with held := put X.held i (m - 1) } (setBlock w X.hm o') from upd_to h3 rfl rfl)
  rw [hmq] at hl
  clear h h3 c0 c1 c2 c4 f4 hmq
  have b0 : (m == 0) = false := by simp; omega
  have b1 : (m == 1) = false := by simp; omega
  go_enter Tryz.func268, Tryz.ntmps268
  go_wp2_with fail
  go_ret
  exact ⟨rfl, HP.out⟩
end
end Go.Proofs.YtkhnkidggcjfeaaGreatDoor
end
section
namespace Go.Proofs.YtkhnkidggcjfeaaGreatDoor
open Go.RowKit
open Go.ChangeMaps (setBlock)
def pks (ops : List OpD) (xs : List OpE) : List (OpD × List Int) := (ops.zip xs).map fun p => (p.1, p.2.zs)
theorem pks_len {ops : List OpD} {xs : List OpE} (h : xs.length = ops.length) : (pks ops xs).length = ops.length := by simp [pks, h]
theorem pks_get {ops : List OpD} {xs : List OpE} (h : xs.length = ops.length) (i : Nat) (hi : i < ops.length) : (pks ops xs)[i]'(by rw [pks_len h]; exact hi) = (ops[i], (xs[i]'(by omega)).zs) := by simp [pks]
structure Ops (w0 : World) (S : Blocks) (L : List Rw) (a : Option Addr) (ops : List OpD) (xs : List OpE) : Prop where
  len : xs.length = ops.length
  at_ : ∀ w' S' L', Own ⟨w0, S'⟩ w' L' → (∀ b x, (b, x) ∈ S → (b, x) ∈ S') → (∀ x ∈ L, x ∈ L') → ∀ i (h : i < ops.length), ∃ g off, a = some ⟨g, off, none⟩ ∧ w'.rangeAt g (off + i * 4) ops[i].cells
  in_ : ∀ i (h : i < ops.length), OpIn w0 S L ops[i] (xs[i]'(by omega))
theorem Ops.mono {w0 : World} {S S' : Blocks} {L L' : List Rw} {a : Option Addr} {ops : List OpD} {xs : List OpE} (h : Ops w0 S L a ops xs) (hs : ∀ b x, (b, x) ∈ S → (b, x) ∈ S') (hl : ∀ x ∈ L, x ∈ L') : Ops w0 S' L' a ops xs :=
  ⟨h.len, fun w' S2 L2 k1 k2 k3 => h.at_ w' S2 L2 k1 (fun b x hb => k2 b x (hs b x hb)) (fun x hx => k3 x (hl x hx)), fun i hi => ⟨(h.in_ i hi).kind, (h.in_ i hi).l, (h.in_ i hi).l2, (h.in_ i hi).p, (h.in_ i hi).q, (h.in_ i hi).n, (h.in_ i hi).data.mono hs (fun _ _ _ h => h) hl⟩⟩
theorem Ops.pack {w0 : World} {S : Blocks} {L : List Rw} {a : Option Addr} {ops : List OpD} {xs : List OpE} (h : Ops w0 S L a ops xs) (hk : ∀ o ∈ ops, 0 ≤ o.kind ∧ o.kind < 4294967296) (hs : ∀ o ∈ ops, o.p.size ≤ 100000 ∧ o.q.size ≤ 100000) (hz : ∀ x ∈ xs, x.zs.length ≤ 100000) : PackIn ⟨w0, S⟩ L a (pks ops xs) := by
  have hmem : ∀ o ∈ pks ops xs, ∃ i, ∃ hi : i < ops.length, o = (ops[i], (xs[i]'(by rw [h.len]; exact hi)).zs) := fun o ho => by
    obtain ⟨i, hi, rfl⟩ := List.getElem_of_mem ho
    rw [pks_len h.len] at hi
    exact ⟨i, hi, pks_get h.len i hi⟩
  refine ⟨fun w' L' k1 k2 i hi => ?_, fun w' L' k1 k2 o ho => ?_, fun o ho => ?_, fun o ho => ?_⟩
  · rw [pks_len h.len] at hi
    rw [pks_get h.len i hi]
    exact h.at_ w' S L' k1 (fun _ _ h => h) k2 i hi
  · obtain ⟨i, hi, rfl⟩ := hmem o ho
    have h1 := h.in_ i hi
    exact (h1.data.mono (S' := S) (F' := []) (fun _ _ h => h) (fun _ _ _ h => h) k2).by (S' := S) (fun _ _ h _ => h) k1
  · obtain ⟨i, hi, rfl⟩ := hmem o ho
    exact hk _ (List.getElem_mem _)
  · obtain ⟨i, hi, rfl⟩ := hmem o ho
    exact ⟨(hs _ (List.getElem_mem _)).1, (hs _ (List.getElem_mem _)).2, hz _ (List.getElem_mem _)⟩
theorem PackIn.mono {W0 : Base} {L L' : List Rw} {a : Option Addr} {ops : List (OpD × List Int)} (h : PackIn W0 L a ops) (hl : ∀ x ∈ L, x ∈ L') : PackIn W0 L' a ops :=
  ⟨fun w' L2 k1 k2 => h.at_ w' L2 k1 fun x hx => k2 x (hl x hx), fun w' L2 k1 k2 => h.data w' L2 k1 fun x hx => k2 x (hl x hx), h.kind, h.len⟩
section
variable {w0 w w' : World} {S S' : Blocks} {R L L' M : List Rw} {v c n : Nat} {X X' : VX} {T T' Tc : Tr} {K : Blocks}
theorem VolIn.drew (h : VolIn w0 S R L v X T w) : VolIn w0 S R L v X T w.drew := h.later (Below.refl _ w).drew
theorem VolIn.front (h : VolIn w0 S R L v X T w) (hO : Own ⟨w0, S⟩ w' (M ++ (R ++ L))) : VolIn w0 S R (M ++ L) v X T w' :=
  { h with
    own := hO.perm (by rw [← List.append_assoc, ← List.append_assoc]; exact List.perm_append_comm.append_right L)
    tree := h.tree.mono (fun b x _ hx => hx) (fun v zs hh => hh.mono fun x hx => List.mem_append_right _ hx) }
theorem work_any (h : VolIn w0 S R L v X T w) : Calls Tryz.prog 28 #[.pointer (some ⟨X.t, 0, none⟩)] w fun e w' =>
    ∃ c S' Tc, e = .returned (.pointer (some ⟨c, 0, none⟩)) ∧ VolIn w0 S' R L v X T w' ∧ Tree S' (Pc L) c Tc ∧ Rep Tc X.E ∧ (∀ b x, (b, x) ∈ S → (b, x) ∈ S') ∧ (∀ b ∈ c :: Tc.foot, w.heap.size ≤ b) := by
  refine (clone_t h.own h.tree).mono fun e w' hc => ?_
  obtain ⟨c, S', Tc, h1, h2, h3, h4, h5, h6⟩ := hc
  exact ⟨c, S', Tc, h1, h.base h2 (fun b x hx _ => h4 b x hx), h3, h.rep.same h6, h4, h5⟩
theorem work_do (h : VolIn w0 S R L v X T w) (hm : Mx w0) (hc : Tree S (Pc L) c Tc) (hr : Rep Tc X.E) (hn : ∀ b ∈ c :: Tc.foot, n ≤ b) (hlow : ∀ b ∈ v :: X.hm :: X.t :: T.foot, b < n) (hnw : n ≤ w.heap.size) {a : Option Addr} {ops : List OpD} {xs : List OpE} (ho : Ops w0 S L a ops xs) (cap : Nat) (hB : X.B + ops.length ≤ 200000) :
    Calls Tryz.prog 29 #[.pointer (some ⟨c, 0, none⟩), .slice a ops.length cap] w fun e w' => e = .returned (.int .i64 (DoE X.E xs).1) ∧ ∃ S' L' Tc', VolIn w0 S' R L' v X T w' ∧ (∀ x ∈ L, x ∈ L') ∧ Tree S' (Pc L') c Tc' ∧ Rep Tc' (DoE X.E xs).2 ∧
      (∀ b x, (b, x) ∈ S → b ∉ c :: Tc.foot → (b, x) ∈ S') ∧ (∀ b ∈ c :: Tc'.foot, n ≤ b) := by
  have h1 := h.own.shelve
  have h2 : Tree (blks w R ++ S) (Pc L) c Tc := hc.mono (fun b x _ hx => List.mem_append_right _ hx) (fun _ _ hh => hh)
  have ho2 := ho.mono (S' := blks w R ++ S) (fun b x hx => List.mem_append_right _ hx) (fun x hx => hx)
  refine (Do_any h1 h2 hr h.inv hm a ops xs cap ho.len hB ho2.at_ ho2.in_).mono fun e w' hd => ?_
  obtain ⟨S1, L1, T1, g0, g1, g2, g3, g4, g5⟩ := hd
  have hoffc : ∀ b x, (b, x) ∈ blks w R → b ∉ c :: Tc.foot := fun b x hb hm => by
    obtain ⟨o, hx⟩ := kept_in hc.at_ b hm
    obtain ⟨r, hr, e1, _⟩ := blks_mem hb
    exact h.own.offB hx r hr e1
  have hdis : ∀ b ∈ v :: X.hm :: X.t :: T.foot, b ∉ c :: Tc.foot := fun b hb hm => by
    have := hn b hm; have := hlow b hb; omega
  refine ⟨g0, offR R S1, L1, T1, h.back g1 g2 (fun m hm => g4.kept m.1 m.2 (List.mem_append_left _ hm) (hoffc m.1 m.2 hm)) (fun b x hx hb => g4.kept b x (List.mem_append_right _ hx) (hdis b hb)), g2, g3.mono (fun b x hb hx => offR_mem.2 ⟨hx, ?_⟩) (fun _ _ hh => hh), g5, fun b x hx hb => offR_mem.2 ⟨g4.kept b x (List.mem_append_right _ hx) hb, h.own.offB hx⟩, fun b hb => ?_⟩
  · rcases g4.fresh b hb with h3 | h3
    · obtain ⟨x0, hx0⟩ := kept_in hc.at_ b h3
      exact h.own.offB hx0
    · exact h.own.freshR h3
  · rcases g4.fresh b hb with h3 | h3
    · exact hn b h3
    · omega
set_option maxHeartbeats 4000000 in
theorem keep_yes (h : VolIn w0 S R L v X T w) {a : Option Addr} {ops : List (OpD × List Int)} (hP : PackIn ⟨w0, S⟩ L a ops) (tv : Value) (cap : Nat) (hn0 : 0 < ops.length) (hn : ops.length ≤ 100000) (hq : ∀ o ∈ ops, o.1.kind = 4 ∨ o.1.kind = 5 ∨ o.1.q = ⟨#[]⟩) (hl : (recO ops).length ≤ 4096) (hf : X.used + roomM (recO ops).length ≤ X.h) (hst : X.st ≤ 1000000000) :
    Calls Tryz.prog 30 #[.pointer (some ⟨v, 0, none⟩), tv, .slice a ops.length cap] w fun e w' => e = .returned (.int .i64 0) ∧ ∃ R' L' D', VolIn w0 S R' L' v { X with D := D', side := X.side, used := X.used + roomM (recO ops).length, recs := X.recs ++ [recO ops], st := X.st + 100 } T w' ∧ (∀ x ∈ L, x ∈ L') := by
  have Hrec := Lib.hid (fun (W : World) (hW : VolIn w0 S R L v X T W) => recordO_any hW.own (hP.mono (L' := R ++ L) fun x hx => List.mem_append_right _ hx) cap hn0 hn hq)
  have hbz : Byts (recO ops) := by
    have := packsD_byts ops hP.kind hP.len fun o ho => ((hP.data w L h.ownL (fun x hx => hx)) o ho).2.1
    intro z hz
    rcases List.mem_cons.1 hz with rfl | hz
    · exact ⟨by decide, by decide⟩
    · exact this z hz
  obtain ⟨⟨c0, c1, c2, c3, c4⟩, f4⟩ := h.atV
  have hlen := h.live
  have Happ := Lib.hid (fun (w1 : World) (r : Value) (L1 : List Rw) (h1 : VolIn w0 S R (rowU r (recO ops) :: (L1 ++ L)) v X T w1) =>
    (append_yes h1.lg h1.live hst r (recO ops) (row_by (List.mem_cons_self ..) hbz) hl hf).mono (R' := fun e w' => e = .returned (.int .i64 0) ∧ ∃ R' L' D', VolIn w0 S R' L' v { X with D := D', side := X.side, used := X.used + roomM (recO ops).length, recs := X.recs ++ [recO ops], st := X.st + 100 } T w' ∧ (∀ x ∈ L, x ∈ L')) fun e w' hd => by
      rcases hd with ⟨D', e1, e2, e3, e4⟩ | ⟨D', e1, _⟩
      · obtain ⟨R', hv⟩ := h1.logTurn e2 e3 (e4 h1.left)
        exact ⟨e1, R', _, D', hv, fun x hx => List.mem_cons_of_mem _ (List.mem_append_right _ hx)⟩
      · exact absurd h1.left e1)
  have HV := Lib.hid h
  clear hP hq hbz hlen h c0 c1 c3 c4 f4 hl hf
  go_enter Tryz.func30, Tryz.ntmps30
  go_wp2_with fail
  go_region_held3 (fun w' : World => w'.cell? ⟨v, 2, none⟩ = some (.pointer (some ⟨X.l, 0, none⟩))) (first | exact c2 | exact d2 | exact c2.trans rfl | go_keep) (first
    | (go_at_call 62; refine (Hrec.out _ (by first | exact HV.out | exact HV.out.drew)).mono ?_; rintro e w1 ⟨r, L1, rfl, hO1⟩; have h1 : VolIn w0 S R (rowU r (recO ops) :: (L1 ++ L)) v X T w1 := HV.out.front (M := rowU r (recO ops) :: L1) hO1; have d2 := h1.atV.1.2.2.1; have H1 := Lib.hid h1; clear h1 hO1)
    | (go_at_call 61; refine (Happ.out w1 r L1 H1.out).mono ?_; rintro e w2 ⟨rfl, R2, L2, D2, h2, h3⟩; have d2 := h2.atV.1.2.2.1; have H2 := Lib.hid (And.intro h2 h3); clear h2 h3))
  all_goals
    have f4 := H2.out.1.atV.2
    have g4 := H2.out.1.atV.1.2.2.2.2
    have HS := Lib.hid H2.out.1.still
    have HL := Lib.hid H2.out.2
    clear H1 H2 Happ HV Hrec
    go_wp2_with fail
    go_ret
    exact ⟨rfl, _, _, _, HS.out, HL.out⟩
end
end Go.Proofs.YtkhnkidggcjfeaaGreatDoor
end
section
namespace Go.Proofs.YtkhnkidggcjfeaaGreatDoor
open Go.RowKit
def E0 (q : Int) : Et := ⟨q, 2, [(1, ⟨true, [], [], 0⟩)]⟩
theorem new_rep (b : Nat) (q : Int) : Rep (newT b q) (E0 (max q 0)) := ⟨rfl, rfl, List.Perm.refl _⟩
def one : List Int := [111, 110, 101]
def two : List Int := [116, 119, 111]
def pA : List UInt8 := [47, 97]
def pAF : List UInt8 := [47, 97, 47, 102]
def pG : List UInt8 := [47, 103]
def pH : List UInt8 := [47, 104]
def pB : List UInt8 := [47, 98]
def EA1 : Et := ⟨10, 4, [(1, ⟨true, [(toB [97], 2), (toB [103], 3)], [], 0⟩), (2, ⟨true, [(toB [102], 3)], [], 0⟩), (3, ⟨false, [], one, 2⟩)]⟩
def EA2 : Et := ⟨10, 5, [(1, ⟨true, [(toB [97], 2), (toB [103], 3)], [], 0⟩), (2, ⟨true, [(toB [102], 4)], [], 0⟩), (3, ⟨false, [], one, 1⟩), (4, ⟨false, [], two, 1⟩)]⟩
def EA3 : Et := ⟨10, 5, [(1, ⟨true, [(toB [97], 2)], [], 0⟩), (2, ⟨true, [(toB [102], 4)], [], 0⟩), (3, ⟨false, [], one, 0⟩), (4, ⟨false, [], two, 1⟩)]⟩
end Go.Proofs.YtkhnkidggcjfeaaGreatDoor
end
section
namespace Go.Proofs.YtkhnkidggcjfeaaGreatDoor
open Go.RowKit
open Go.ChangeMaps (setBlock)
open Go.Sort
def rowI (v : Value) (zs : List Int) : Rw := ⟨3, 1, v, zs.length, zs.map (Value.int .i64)⟩
theorem sort_row {W0 : Base} {w : World} {L : List Rw} {v : Value} {zs : List Int} (h : Own W0 w (rowI v zs :: L)) (hl : zs.length < 4611686018427387904) :
    Calls Tryz.prog 67 #[v] w fun e w' => e = .returned (.tuple #[]) ∧ Own W0 w' (rowI v (zs.mergeSort fun x y => decide (x ≤ y)) :: L) := by
  have h' : Own W0 w (⟨3, 1, v, zs.length, zs.map (Value.int .i64)⟩ :: L) := h
  have hown : w.ownsRow W0.world.heap.size 3 1 v zs.length (zs.map (Value.int .i64)) := h.head
  have hsl : (zs.mergeSort fun x y => decide (x ≤ y)).length = zs.length := List.length_mergeSort _
  rcases hown.2 with ⟨hv, hn⟩ | ⟨g, cap, cur, hv, hg, hb, hn, hcap, hsz, htk⟩
  · have hz : zs = [] := List.eq_nil_of_length_eq_zero hn
    subst hz
    rw [hv]
    refine (Tryz.slices_Sort_int_none none 0 w).mono ?_
    rintro e w' ⟨rfl, rfl⟩
    refine ⟨rfl, ?_⟩
    rw [hv] at h
    simpa using h
  · have hv2 : v = .slice (some ⟨g, 0, none⟩) zs.length cap := hv
    have hH : _root_.Go.Sort.Holds (Value.int .i64) w g 0 zs.toArray := holds_of_blockI hb (by rw [Nat.mul_one] at htk; exact htk)
    have hlt : g < w.heap.size := lt_of_heap hb
    rw [hv2]
    refine (Tryz.slices_Sort_int g 0 cap zs w hH hlt hl).mono ?_
    rintro e w' ⟨rfl, n, os, rfl⟩
    refine ⟨rfl, ?_⟩
    have hrow := ownsRow_sortedI (n := n) (os := os) hsl hg hb hn hcap hsz
    rw [hv2] at h'
    have hres := Own.grown (h := h') (by rw [← hsl] at hrow; exact hrow) (grownBy_sortedI _) (.inl (by rw [hsl]))
    unfold rowI
    rw [hsl]
    rw [hsl] at hres
    exact hres
end Go.Proofs.YtkhnkidggcjfeaaGreatDoor
end
section
namespace Go.Proofs.YtkhnkidggcjfeaaGreatDoor
open Go.RowKit
open Go.ChangeMaps (setBlock)
def looseL (l : List (Int × Nd)) : List Int := (l.filter fun p => p.2.loose).map (·.1)
theorem looseL_snoc (l : List (Int × Nd)) (p : Int × Nd) : looseL (l ++ [p]) = looseL l ++ (if p.2.loose then [p.1] else []) := by
  unfold looseL
  rw [List.filter_append, List.map_append]
  cases h : p.2.loose <;> simp [h]
theorem looseL_len (l : List (Int × Nd)) : (looseL l).length ≤ l.length := by
  unfold looseL
  rw [List.length_map]
  exact List.length_filter_le _ _
theorem info_i : (Tryz.prog.info? 3).map (fun i => (i.zero, i.size, i.bytes)) = some (some (.int .i64 0), 1, 8) := by kernel_rfl
def LooseRel (w : World) (T : Tr) (v : Value) (wr : World) : Prop :=
  ∃ oi o done left, WalksR w w.heap.size T oi o done left wr ∧ Own ⟨w, [(w.heap.size, oi)]⟩ wr [rowI v (looseL done)]
def LoosePost (w : World) (T : Tr) (e : Ending) (w' : World) : Prop := ∃ (v : Value) (zs : List Int), e = .returned v ∧ zs.Perm (looseL T.nodes) ∧ Own w w' [rowI v (zs.mergeSort fun x y => decide (x ≤ y))]
set_option maxHeartbeats 2000000 in
theorem loose_t {w : World} {D : Value → List Int → Prop} {t : Nat} {T : Tr} (H : TreeIn (inW w) D t T) (hn : T.nodes.length ≤ 4294967296) :
    Calls Tryz.prog 33 #[.pointer (some ⟨t, 0, none⟩)] w (LoosePost w T) := by
  obtain ⟨i0, hi, hz0, hz1, hz2⟩ := info_parts info_i
  obtain ⟨_, _, c2⟩ := H.at0
  obtain ⟨oi, o, hrun, hW⟩ := Walks.start H
  have hWR : WalksR w w.heap.size T oi o [] T.nodes (w.alloc oi) := ⟨hW.1, hW.2.1, hW.2.2.1, hW.2.2.2.1, hW.2.2.2.2, Nat.le_refl _⟩
  have HW := Lib.hid (show LooseRel w T (.slice none 0 0) (w.alloc oi) from ⟨oi, o, [], T.nodes, hWR, ((Own.start w).newB oi).nil 3 1⟩)
  have HH := Lib.hid H
  clear H hW hWR
  go_enter Tryz.func33, Tryz.ntmps33
  go_wp2_with fail
  go_loopw [3] (fun s wr => LooseRel w T s wr) (fun _ wr => leftN wr T.bm w.heap.size)
  case atStart => exact HW.out
  case round =>
    obtain ⟨oi2, o2, done, left, hW, hO⟩ := hrel
    have hle := hW.left_eq
    have hperm := hW.2.2.2.1
    have hlen2 : done.length ≤ 4294967296 := by have := hperm.length_eq; rw [List.length_append] at this; omega
    have hll : (looseL done).length ≤ 4294967296 := Nat.le_trans (looseL_len done) hlen2
    rcases hW.next with ⟨rfl, hnx⟩ | ⟨l1, l2, p, oi', w1, rfl, hw1, hnx, hW', hp, hen⟩
    · have hO2 : Own ⟨w, []⟩ wr [rowI u3 (looseL done)] := hO.forget (S' := []) (fun m hm => by cases hm)
      have hs := sort_row hO2 (by omega)
      have hper : (looseL done).Perm (looseL T.nodes) := by
        simp only [List.append_nil] at hperm
        exact (hperm.filter _).map _
      obtain ⟨fa, fc, hf, _, _⟩ := Own.sized (h := (show Own ⟨w, []⟩ wr (⟨3, 1, u3, (looseL done).length, (looseL done).map (Value.int .i64)⟩ :: []) from hO2))
      have HP := Lib.hid hper
      clear hW hle hperm hO hO2 hlen2 hll hper hrun
      subst hf
      go_wp2_with (go_at_call 67; refine hs.mono ?_; rintro e w3 ⟨rfl, hO3⟩; have HO3 := Lib.hid hO3; clear hO3)
      go_ret
      exact ⟨_, _, rfl, HP.out, HO3.out⟩
    · have hr : ∀ oi2, ((w.heap.size, oi2) : Nat × Obj) ∈ [(w.heap.size, oi2)] := fun _ => List.mem_cons_self ..
      have hO1 : Own ⟨w, [(w.heap.size, oi2)]⟩ w1 [rowI u3 (looseL done)] := by rcases hw1 with rfl | rfl; exact hO; exact hO.drew
      have hO2 : Own ⟨w, [(w.heap.size, oi')]⟩ (setBlock w1 w.heap.size oi') [rowI u3 (looseL done)] := by
        have := hO1.setB (hr _) oi'
        simpa [upd] using this
      have hN := (hW'.tree HH.out).node p hp
      have hlo := loose_any hN
      obtain ⟨e1, e2⟩ := hW'.entry
      have hent := hen _ e1 e2
      have hl2 := hW'.left_eq
      have hmeas : (l1 ++ l2).length < leftN wr T.bm w.heap.size := by rw [hle]; simp
      have hsn := looseL_snoc done p
      generalize hw2 : setBlock w1 w.heap.size oi' = w2 at *
      obtain ⟨fa, fc, hf, _, _⟩ := Own.sized (h := (show Own ⟨w, [(w.heap.size, oi')]⟩ w2 (⟨3, 1, u3, (looseL done).length, (looseL done).map (Value.int .i64)⟩ :: []) from hO2))
      have HN := Lib.hid hW'
      have hf' : u3 = .slice fa (looseL done).length fc := hf
      clear hf
      subst hf'
      rcases Bool.eq_false_or_eq_true p.2.loose with hlz | hlz
      · rw [hlz] at hlo hsn
        simp only [if_true] at hsn
        have hb1 : (looseL done).length + 1 ≤ maxLen := by unfold maxLen; omega
        have hb2 : ((looseL done).length + 1) * 8 ≤ 140737488355328 := by omega
        have HO2 := Lib.hid (show Own ⟨w, [(w.heap.size, oi')]⟩ (w2.alloc (.cells #[.int .i64 p.1] 3)) (⟨3, 1, .slice fa (looseL done).length fc, (looseL done).length, (looseL done).map (Value.int .i64)⟩ :: []) from hO2.alloc _)
        have hsrc : Src (w2.alloc (.cells #[.int .i64 p.1] 3)) (.slice (some ⟨w2.heap.size, 0, none⟩) 1 1) 1 [.int .i64 p.1] := by
          refine .inr ⟨_, _, rfl, fun j u hj => ?_, fun u hu => by rw [List.mem_singleton.1 hu]; rfl⟩
          rw [Addr.add_mid, Nat.zero_add, World.cell?_alloc_new]
          simpa using hj
        have Hsrc := Lib.hid hsrc
        have Hb1 := Lib.hid hb1
        have Hb2 := Lib.hid hb2
        have Hm := Lib.hid hmeas
        have Hsn := Lib.hid hsn
        clear hO hO1 hO2 hW hW' hle hperm hN e1 e2 hen hl2 hsn hsrc hb1 hb2 hmeas hll hlen2 hw1 hlz hw2 hrun
        go_wp2_with (first
          | (go_at_call 65; refine hlo.mono ?_; rintro e w' ⟨rfl, rfl⟩)
          | (at_builtin; refine wpList_append_src rfl (.tmp 18) (.tmp 20) 84 rfl (.slice fa (looseL done).length fc) (looseL done).length ((looseL done).map (Value.int .i64)) (.slice (some ⟨w2.heap.size, 0, none⟩) 1 1) 1 [.int .i64 p.1] rfl rfl HO2.out i0 (.int .i64 0) 8 Tryz.underlying84 hi hz0 hz1 hz2 rfl (by decide) Hsrc.out (by simp) Hb1.out Hb2.out ?_))
        intro v4 w4 hO4
        have HR := Lib.hid (show LooseRel w T v4 w4 ∧ leftN w4 T.bm w.heap.size < leftN wr T.bm w.heap.size from by
          have hO5 : Own ⟨w, [(w.heap.size, oi')]⟩ w4 [rowI v4 (looseL (done ++ [p]))] := by
            rw [Hsn.out]
            unfold rowI
            rw [List.length_append, List.map_append]
            exact hO4
          have hB : Below w.heap.size w w4 := hO4.below
          have hW4 : WalksR w w.heap.size T oi' o2 (done ++ [p]) (l1 ++ l2) w4 := ⟨hO4.at (List.mem_cons_self ..), HN.out.2.1, HN.out.2.2.1, HN.out.2.2.2.1, hB, Nat.le_refl _⟩
          exact ⟨⟨oi', o2, _, _, hW4, hO5⟩, by rw [hW4.left_eq]; exact Hm.out⟩)
        obtain ⟨a4, c4, hv4, _, _⟩ := Own.sized (h := hO4)
        subst hv4
        clear hO4 HO2 Hsrc Hb1 Hb2 Hm Hsn HN
        go_wp2_with fail
        go_roundw
        case rel => exact HR.out.1
        case measure => exact HR.out.2
      · rw [hlz] at hlo hsn
        simp only [Bool.false_eq_true, if_false, List.append_nil] at hsn
        have HX := Lib.hid (show LooseRel w T (.slice fa (looseL done).length fc) w2 from ⟨oi', o2, _, _, hW', by rw [hsn]; exact hO2⟩)
        have HL := Lib.hid (show leftN w2 T.bm w.heap.size < leftN wr T.bm w.heap.size by rw [hl2]; exact hmeas)
        clear hO hO1 hO2 hW hW' hle hperm hN e1 e2 hen hl2 hsn hmeas hll hlen2 hw1 hlz hw2 HN hrun
        go_wp2_with (go_at_call 65; refine hlo.mono ?_; rintro e w' ⟨rfl, rfl⟩)
        go_roundw
        case rel => exact HX.out
        case measure => exact HL.out
end Go.Proofs.YtkhnkidggcjfeaaGreatDoor
end
