/- A log as it lies in memory, and its small calls. -/
import Derived.Test.YtpebpchnkhbcfaaLLog1
import Derived.Test.YtpebpchnkhbcfaaKAlive
import Derived.BigQuiet
import Derived.Deep.RegionWith
namespace Go.Proofs.Ytpebpchnkhbcfaa
open Go.RowKit
set_option linter.unusedVariables false
set_option linter.unusedSimpArgs false

theorem Own.form3 {W0 : Base} {w : World} {v : Value} {zs : List Int} {L : List Rw} (h : Own W0 w (rowU v zs :: L)) : ∃ a k c, v = .slice a k c := by
  obtain ⟨a, c, hv, _⟩ := Own.sized (h := h)
  exact ⟨_, _, _, hv⟩
theorem Own.of_mem {W0 : Base} {w : World} {L M : List Rw} (h : Own W0 w L) (hs : M.Sublist L) : Own W0 w M :=
  ⟨h.below, fun p hp => h.rows p (hs.subset hp), h.apart.sublist hs, h.maps, fun m hm p hp => h.offmaps m hm p (hs.subset hp)⟩

/-! ### Rows beside a disk -/
theorem DkAt.open {W0 : Base} {w : World} {d : Nat} {D : Dk} {L : List Rw} (h : DkAt W0 w d D L) : ∃ R : List Rw, Own W0 w (R ++ L) ∧ (∀ w' L', Own W0 w' (R ++ L') → DkAt W0 w' d D L') := by
  obtain ⟨hD, kb, lb, n, sv, hn, hO⟩ := h
  exact ⟨[rowD d kb lb sv n D, rowK kb n D.kept, rowK lb n D.last, rowS sv D.since], hO, fun w' L' h' => ⟨hD, kb, lb, n, sv, hn, h'⟩⟩
theorem DkAt.own {W0 : Base} {w : World} {d : Nat} {D : Dk} {L : List Rw} (h : DkAt W0 w d D L) : Own W0 w L := by
  obtain ⟨R, h1, _⟩ := h.open
  exact h1.of_mem (List.sublist_append_right _ _)
theorem DkAt.sub {W0 : Base} {w : World} {d : Nat} {D : Dk} {L L' : List Rw} (h : DkAt W0 w d D L) (hs : L'.Sublist L) : DkAt W0 w d D L' := by
  obtain ⟨R, h1, h2⟩ := h.open
  exact h2 _ _ (h1.of_mem (List.Sublist.append_left hs _))
theorem DkAt.perm {W0 : Base} {w : World} {d : Nat} {D : Dk} {L L' : List Rw} (h : DkAt W0 w d D L) (hp : L.Perm L') : DkAt W0 w d D L' := by
  obtain ⟨R, h1, h2⟩ := h.open
  exact h2 _ _ (h1.perm (List.Perm.append_left _ hp))
theorem DkAt.join {W0 : Base} {w w' : World} {d : Nat} {D : Dk} {L M : List Rw} (h : DkAt W0 w d D L) (k : Own w w' M) : DkAt W0 w' d D (M ++ L) := by
  obtain ⟨R, h1, h2⟩ := h.open
  refine h2 _ _ ((h1.join k).perm ?_)
  rw [← List.append_assoc, ← List.append_assoc]
  exact List.perm_append_comm.append_right L
theorem DkAt.drewN {W0 : Base} {w : World} {d : Nat} {D : Dk} {L : List Rw} (h : DkAt W0 w d D L) {n : Nat} : DkAt W0 (w.drewN n) d D L := by
  obtain ⟨R, h1, h2⟩ := h.open
  exact h2 _ _ h1.drewN
/-- The first row beside the disk, ahead of all. -/
theorem DkAt.first {W0 : Base} {w : World} {d : Nat} {D : Dk} {L : List Rw} {r : Rw} (h : DkAt W0 w d D (r :: L)) : ∃ R : List Rw, Own W0 w (r :: (R ++ L)) ∧ (∀ w' r' L', Own W0 w' (r' :: (R ++ L')) → DkAt W0 w' d D (r' :: L')) := by
  obtain ⟨R, h1, h2⟩ := h.open
  exact ⟨R, h1.perm List.perm_middle, fun w' r' L' h' => h2 _ _ (h'.perm List.perm_middle.symm)⟩
theorem DkAt.onSet {W0 : Base} {w : World} {d : Nat} {D : Dk} {L : List Rw} {e size g n cap : Nat} {xs : List Value} (h : DkAt W0 w d D (⟨e, size, .slice (some ⟨g, 0, none⟩) n cap, n, xs⟩ :: L)) (j : Nat) (u : Value) : DkAt W0 (w.setCell ⟨g, j, none⟩ u) d D (⟨e, size, .slice (some ⟨g, 0, none⟩) n cap, n, xs.set j u⟩ :: L) := by
  obtain ⟨R, h1, h2⟩ := h.first
  exact h2 _ _ _ (Own.set (h := h1) j u)
theorem DkAt.onSets {W0 : Base} {w : World} {d : Nat} {D : Dk} {L : List Rw} {e size g n cap : Nat} {xs : List Value} (h : DkAt W0 w d D (⟨e, size, .slice (some ⟨g, 0, none⟩) n cap, n, xs⟩ :: L)) (vs : List Value) (j : Nat) : DkAt W0 (w.setCells g j vs) d D (⟨e, size, .slice (some ⟨g, 0, none⟩) n cap, n, splice xs j vs⟩ :: L) := by
  obtain ⟨R, h1, h2⟩ := h.first
  exact h2 _ _ _ (Own.setCells (h := h1) vs j)
theorem DkAt.lt {W0 : Base} {w : World} {d : Nat} {D : Dk} {L : List Rw} (h : DkAt W0 w d D L) : d < w.heap.size := by
  obtain ⟨hD, kb, lb, n, sv, hn, hO⟩ := h
  exact (hO.lt (List.mem_cons_self ..) (k := d) rfl).2

/-! ### The log's own cells, and the list of its records -/
def lcells (d : Nat) (side used : Nat) (lv : Value) (dead : Bool) : List Value := [.pointer (some ⟨d, 0, none⟩), .int .i64 side, .int .i64 used, lv, .bool dead]
def rowLog (l d : Nat) (side used : Nat) (lv : Value) (dead : Bool) : Rw := ⟨61, 5, .slice (some ⟨l, 0, none⟩) 1 1, 1, lcells d side used lv dead⟩
def rowV (lv : Value) (vs : List Value) : Rw := ⟨30, 1, lv, vs.length, vs⟩
theorem info_v : (Try.prog.info? 30).map (fun i => (i.zero, i.size, i.bytes)) = some (some (.slice none 0 0), 1, 24) := by kernel_rfl
/-- These values are pieces of rows of M, and read as these records. -/
def Lst (M : List Rw) (vs : List Value) (recs : List (List Int)) : Prop := vs.length = recs.length ∧ ∀ (i : Nat) (v : Value) (b : List Int), vs[i]? = some v → recs[i]? = some b → Pc M v b
theorem Lst.nil (M : List Rw) : Lst M [] [] := ⟨rfl, fun i v b h => by simp at h⟩
theorem Lst.mono {L L' : List Rw} {vs : List Value} {recs : List (List Int)} (h : Lst L vs recs) (hs : ∀ r ∈ L, r ∈ L') : Lst L' vs recs := ⟨h.1, fun i v b h1 h2 => (h.2 i v b h1 h2).mono hs⟩
theorem Lst.push {L : List Rw} {vs : List Value} {recs : List (List Int)} (h : Lst L vs recs) {v : Value} {b : List Int} (hp : Pc L v b) : Lst L (vs ++ [v]) (recs ++ [b]) := by
  refine ⟨by simp [h.1], fun i u c h1 h2 => ?_⟩
  have hl := h.1
  by_cases hi : i < vs.length
  · rw [List.getElem?_append_left hi] at h1
    rw [List.getElem?_append_left (by omega)] at h2
    exact h.2 i u c h1 h2
  · rw [List.getElem?_append_right (by omega)] at h1
    rw [List.getElem?_append_right (by omega)] at h2
    by_cases hi2 : i = vs.length
    · subst hi2
      rw [Nat.sub_self] at h1
      rw [hl, Nat.sub_self] at h2
      simp at h1 h2
      subst h1 h2
      exact hp
    · have : i - vs.length = (i - vs.length - 1) + 1 := by omega
      rw [this] at h1
      simp at h1
theorem Lst.one {L : List Rw} {vs : List Value} {recs : List (List Int)} (h : Lst L vs recs) : ∀ u ∈ vs, u.oneCell' = true := by
  intro u hu
  obtain ⟨i, hi, rfl⟩ := List.getElem_of_mem hu
  obtain ⟨a, c, hv, _⟩ := h.2 i _ _ (List.getElem?_eq_getElem hi) (List.getElem?_eq_getElem (by rw [← h.1]; exact hi))
  rw [hv]; rfl
theorem zip_recs (vs : List Value) (recs : List (List Int)) (h : vs.length = recs.length) : (vs.zip recs).map (·.2) = recs := by
  rw [List.map_snd_zip (by omega)]
theorem zip_vals (vs : List Value) (recs : List (List Int)) (h : vs.length = recs.length) : (vs.zip recs).map (·.1) = vs := by
  rw [List.map_fst_zip (by omega)]
/-- A list of the call's own, as one that is read. -/
theorem Lst.parts {W0 : Base} {w : World} {lv : Value} {vs : List Value} {recs : List (List Int)} {M L : List Rw} (h : Lst M vs recs) (hM : Own W0 w M) (hV : Own W0 w (rowV lv vs :: L)) : ∃ a c, lv = .slice a vs.length c ∧ Parts w a (vs.zip recs) ∧ vs.length ≤ maxLen := by
  obtain ⟨a, c, hv, h1, h2⟩ := Own.sized (h := hV)
  refine ⟨a, c, hv, fun i hi => ?_, Nat.le_trans h1 h2⟩
  have hl := h.1
  rw [List.length_zip, ← hl, Nat.min_self] at hi
  obtain ⟨g, cap, hf, _, _, _, _⟩ := Own.form (h := hV) (by omega)
  rw [hv] at hf
  injection hf with e1 e2 e3
  subst e1
  subst e3
  rw [hv] at hV
  refine ⟨g, 0, rfl, ?_, ?_⟩
  · rw [Nat.zero_add, Own.cell (h := hV) i (by omega), List.getElem?_eq_getElem hi, List.getElem_zip]
  · rw [List.getElem_zip]
    exact (h.2 i _ _ (List.getElem?_eq_getElem hi) (List.getElem?_eq_getElem (by omega))).by hM
theorem Parts.drew {w : World} {a : Option Addr} {PS : List (Value × List Int)} (h : Parts w a PS) : Parts w.drew a PS := h

/-- A log in memory, beside its disk. -/
structure LgAt (W0 : Base) (w : World) (l d : Nat) (D : Dk) (side used : Nat) (recs : List (List Int)) (dead : Bool) (L : List Rw) : Prop where
  six : 6 ≤ D.last.length
  sides : side ≤ 1
  fit : used ≤ (D.last.length - 2) / 2
  rest : ∃ lv vs M, DkAt W0 w d D (rowLog l d side used lv dead :: rowV lv vs :: (M ++ L)) ∧ Lst M vs recs

theorem LgAt.disk {W0 : Base} {w : World} {l d : Nat} {D : Dk} {side used : Nat} {recs : List (List Int)} {dead : Bool} {L : List Rw} (h : LgAt W0 w l d D side used recs dead L) : ∃ L', DkAt W0 w d D L' := by
  obtain ⟨lv, vs, M, h1, _⟩ := h.rest
  exact ⟨_, h1⟩
theorem LgAt.below {W0 : Base} {w : World} {l d : Nat} {D : Dk} {side used : Nat} {recs : List (List Int)} {dead : Bool} {L : List Rw} (h : LgAt W0 w l d D side used recs dead L) : Below W0.world.heap.size W0.world w := by
  obtain ⟨lv, vs, M, h1, _⟩ := h.rest
  exact h1.below
theorem LgAt.later {W0 : Base} {w w' : World} {l d : Nat} {D : Dk} {side used : Nat} {recs : List (List Int)} {dead : Bool} {L : List Rw} (h : LgAt W0 w l d D side used recs dead L) (hb : Below w.heap.size w w') : LgAt W0 w' l d D side used recs dead L := by
  obtain ⟨lv, vs, M, h1, h2⟩ := h.rest
  exact ⟨h.six, h.sides, h.fit, lv, vs, M, h1.later hb, h2⟩
theorem LgAt.drewN {W0 : Base} {w : World} {l d : Nat} {D : Dk} {side used : Nat} {recs : List (List Int)} {dead : Bool} {L : List Rw} (h : LgAt W0 w l d D side used recs dead L) {n : Nat} : LgAt W0 (w.drewN n) l d D side used recs dead L := by
  obtain ⟨lv, vs, M, h1, h2⟩ := h.rest
  exact ⟨h.six, h.sides, h.fit, lv, vs, M, h1.drewN, h2⟩
theorem LgAt.drew {W0 : Base} {w : World} {l d : Nat} {D : Dk} {side used : Nat} {recs : List (List Int)} {dead : Bool} {L : List Rw} (h : LgAt W0 w l d D side used recs dead L) : LgAt W0 w.drew l d D side used recs dead L := by
  obtain ⟨lv, vs, M, h1, h2⟩ := h.rest
  exact ⟨h.six, h.sides, h.fit, lv, vs, M, h1.drew, h2⟩
theorem LgAt.alloc {W0 : Base} {w : World} {l d : Nat} {D : Dk} {side used : Nat} {recs : List (List Int)} {dead : Bool} {L : List Rw} (h : LgAt W0 w l d D side used recs dead L) (o : Obj) : LgAt W0 (w.alloc o) l d D side used recs dead L := by
  obtain ⟨lv, vs, M, h1, h2⟩ := h.rest
  exact ⟨h.six, h.sides, h.fit, lv, vs, M, h1.alloc o, h2⟩
theorem LgAt.join {W0 : Base} {w w' : World} {l d : Nat} {D : Dk} {side used : Nat} {recs : List (List Int)} {dead : Bool} {L N : List Rw} (h : LgAt W0 w l d D side used recs dead L) (k : Own w w' N) : LgAt W0 w' l d D side used recs dead (N ++ L) := by
  obtain ⟨lv, vs, M, h1, h2⟩ := h.rest
  refine ⟨h.six, h.sides, h.fit, lv, vs, M, (h1.join k).perm ?_, h2⟩
  have e : rowLog l d side used lv dead :: rowV lv vs :: (M ++ (N ++ L)) = (rowLog l d side used lv dead :: rowV lv vs :: M) ++ (N ++ L) := rfl
  have e2 : N ++ rowLog l d side used lv dead :: rowV lv vs :: (M ++ L) = N ++ ((rowLog l d side used lv dead :: rowV lv vs :: M) ++ L) := rfl
  rw [e, e2, ← List.append_assoc, ← List.append_assoc]
  exact List.perm_append_comm.append_right L
theorem LgAt.sub {W0 : Base} {w : World} {l d : Nat} {D : Dk} {side used : Nat} {recs : List (List Int)} {dead : Bool} {L L' : List Rw} (h : LgAt W0 w l d D side used recs dead L) (hs : L'.Sublist L) : LgAt W0 w l d D side used recs dead L' := by
  obtain ⟨lv, vs, M, h1, h2⟩ := h.rest
  exact ⟨h.six, h.sides, h.fit, lv, vs, M, h1.sub ((List.Sublist.append_left hs M).cons_cons _ |>.cons_cons _), h2⟩
theorem LgAt.own {W0 : Base} {w : World} {l d : Nat} {D : Dk} {side used : Nat} {recs : List (List Int)} {dead : Bool} {L : List Rw} (h : LgAt W0 w l d D side used recs dead L) : Own W0 w L := by
  obtain ⟨lv, vs, M, h1, h2⟩ := h.rest
  exact h1.own.of_mem (((List.sublist_append_right M L).cons _).cons _)
theorem LgAt.ok {W0 : Base} {w : World} {l d : Nat} {D : Dk} {side used : Nat} {recs : List (List Int)} {dead : Bool} {L : List Rw} (h : LgAt W0 w l d D side used recs dead L) : D.Ok := by
  obtain ⟨lv, vs, M, h1, h2⟩ := h.rest
  exact h1.ok
/-- What the log's box holds. -/
theorem log_cells {W0 : Base} {w : World} {l d : Nat} {D : Dk} {side used : Nat} {lv : Value} {dead : Bool} {L : List Rw} (h : DkAt W0 w d D (rowLog l d side used lv dead :: L)) :
    w.cell? ⟨l, 0, none⟩ = some (.pointer (some ⟨d, 0, none⟩)) ∧ w.cell? ⟨l, 1, none⟩ = some (.int .i64 side) ∧ w.cell? ⟨l, 2, none⟩ = some (.int .i64 used) ∧ w.cell? ⟨l, 3, none⟩ = some lv ∧ w.cell? ⟨l, 4, none⟩ = some (.bool dead) ∧ (∀ j, w.frozen? ⟨l, j, none⟩ = false) ∧ l < w.heap.size := by
  obtain ⟨R, h1, _⟩ := h.first
  exact ⟨Own.cell (h := h1) 0 (by decide), Own.cell (h := h1) 1 (by decide), Own.cell (h := h1) 2 (by decide), Own.cell (h := h1) 3 (by decide), Own.cell (h := h1) 4 (by decide), fun j => Own.free (h := h1) j, (h1.lt (List.mem_cons_self ..) (k := l) rfl).2⟩
theorem LgAt.cells {W0 : Base} {w : World} {l d : Nat} {D : Dk} {side used : Nat} {recs : List (List Int)} {dead : Bool} {L : List Rw} (h : LgAt W0 w l d D side used recs dead L) :
    w.cell? ⟨l, 0, none⟩ = some (.pointer (some ⟨d, 0, none⟩)) ∧ w.cell? ⟨l, 1, none⟩ = some (.int .i64 side) ∧ w.cell? ⟨l, 2, none⟩ = some (.int .i64 used) ∧ w.cell? ⟨l, 4, none⟩ = some (.bool dead) ∧ (∀ j, w.frozen? ⟨l, j, none⟩ = false) ∧ l < w.heap.size := by
  obtain ⟨lv, vs, M, h1, h2⟩ := h.rest
  obtain ⟨a, b, c, _, e, f, g⟩ := log_cells h1
  exact ⟨a, b, c, e, f, g⟩

/-! ### Small calls -/
theorem room_any (n : Nat) (w : World) (hn : n ≤ 140737488355328) : Calls Try.prog 16 #[.int .i64 (n : Int)] w fun e w' => e = .returned (.int .i64 (roomM n : Int)) ∧ w = w' := by
  have h1 : (if 0 < (n : Int) then (n : Int) else 0) = n := by omega
  have h2 : (if (n : Int) < 0 then 0 else (n : Int)) = n := by omega
  have h3 : (if (n : Int) ≤ 0 then 0 else (n : Int)) = n := by omega
  have h4 : (if (0 : Int) > (n : Int) then 0 else (n : Int)) = n := by omega
  have hE : ((n : Int) / 63 + ((n : Int) % 63 + 16 + 63 - 1) / 63) = (roomM n : Int) := by unfold roomM; omega
  have HE := Lib.hid hE
  clear hE
  go_enter Try.func16, Try.ntmps16
  go_wp2_with fail
  go_ret
  exact ⟨congrArg (fun z => Ending.returned (Value.int .i64 z)) HE.out, rfl⟩

theorem half_dk {W0 : Base} {w : World} {l d : Nat} {D : Dk} {side used : Nat} {lv : Value} {dead : Bool} {L : List Rw} (h : DkAt W0 w d D (rowLog l d side used lv dead :: L)) (h6 : 6 ≤ D.last.length) :
    Calls Try.prog 30 #[.pointer (some ⟨l, 0, none⟩)] w fun e w' => e = .returned (.int .i64 (((D.last.length - 2) / 2 : Nat) : Int)) ∧ w = w' := by
  obtain ⟨c0, _, _, _, _, _, _⟩ := log_cells h
  have hm := h.ok.le
  have H := Lib.hid h
  obtain ⟨n, hn⟩ : ∃ n, D.last.length = n := ⟨_, rfl⟩
  rw [hn] at h6 hm ⊢
  have hE : (((n : Int) - 2) / 2) = (((n - 2) / 2 : Nat) : Int) := by omega
  have HE := Lib.hid hE
  have Hn := Lib.hid hn
  clear h hE hn
  go_enter Try.func30, Try.ntmps30
  go_wp2_with fail
  refine (len_any W0 w d D _ H.out).mono ?_
  rintro e w' ⟨rfl, rfl⟩
  rw [Hn.out]
  have hn0 : (0 : Int) ≤ (n : Int) - 2 := by omega
  go_wp2_with fail
  go_ret
  exact ⟨congrArg (fun z => Ending.returned (Value.int .i64 z)) HE.out, rfl⟩
theorem half_any {W0 : Base} {w : World} {l d : Nat} {D : Dk} {side used : Nat} {recs : List (List Int)} {dead : Bool} {L : List Rw} (h : LgAt W0 w l d D side used recs dead L) :
    Calls Try.prog 30 #[.pointer (some ⟨l, 0, none⟩)] w fun e w' => e = .returned (.int .i64 (((D.last.length - 2) / 2 : Nat) : Int)) ∧ w = w' := by
  obtain ⟨lv, vs, M, h1, h2⟩ := h.rest
  exact half_dk h1 h.six

theorem place_dk {W0 : Base} {w : World} {l d : Nat} {D : Dk} {side used : Nat} {lv : Value} {dead : Bool} {L : List Rw} (h : DkAt W0 w d D (rowLog l d side used lv dead :: L)) (h6 : 6 ≤ D.last.length) (s x : Nat) (hs : s ≤ 1) (hx : x ≤ 100000) :
    Calls Try.prog 39 #[.pointer (some ⟨l, 0, none⟩), .int .i64 s, .int .i64 x] w fun e w' => e = .returned (.int .i64 ((2 + s * ((D.last.length - 2) / 2) + x : Nat) : Int)) ∧ w = w' := by
  have hm := h.ok.le
  have Hc := Lib.hid (half_dk h h6)
  obtain ⟨k, hk, hk2⟩ : ∃ k : Nat, (D.last.length - 2) / 2 = k ∧ k ≤ 4096 := ⟨_, rfl, by omega⟩
  rw [hk] at Hc ⊢
  have hsk : (s : Int) * (k : Int) = ((s * k : Nat) : Int) := by simp
  have hskb : s * k ≤ 4096 := by
    rcases Nat.le_one_iff_eq_zero_or_eq_one.1 hs with rfl | rfl <;> omega
  generalize s * k = q at *
  clear h hk
  go_enter Try.func39, Try.ntmps39
  go_wp2_with fail
  refine Hc.out.mono ?_
  rintro e w' ⟨rfl, rfl⟩
  go_wp2_with fail
  go_ret
  exact ⟨by go_num, rfl⟩

theorem left_any {W0 : Base} {w : World} {l d : Nat} {D : Dk} {side used : Nat} {recs : List (List Int)} {dead : Bool} {L : List Rw} (h : LgAt W0 w l d D side used recs dead L) :
    Calls Try.prog 14 #[.pointer (some ⟨l, 0, none⟩)] w fun e w' => e = .returned (.int .i64 (((D.last.length - 2) / 2 - used : Nat) : Int)) ∧ ∃ n, w' = w.drewN n := by
  obtain ⟨c0, c1, c2, c4, f, hl⟩ := h.cells
  have hm := h.ok.le
  have hf := h.fit
  have Hc := Lib.hid (fun n : Nat => half_any (h.drewN (n := n)))
  obtain ⟨k, hk, hk2⟩ : ∃ k : Nat, (D.last.length - 2) / 2 = k ∧ k ≤ 4096 := ⟨_, rfl, by omega⟩
  rw [hk] at Hc hf ⊢
  clear h hk
  have hwr : IntKind.i64.wrap ((k : Int) - (used : Int)) = ((k - used : Nat) : Int) := by rw [IntWalk.i64_in _ (by omega)]; omega
  go_enter Try.func14, Try.ntmps14
  go_wp2_with fail
  go_quiet ((go_at_call 30; exact Calls.quiet_of_same ((Hc.out _).mono fun e w' ⟨h1, h2⟩ => ⟨h1, h2.symm⟩)))
  go_wp2_with fail
  go_ret
  exact ⟨rfl, _, rfl⟩
end Go.Proofs.Ytpebpchnkhbcfaa
