/- New, its parts: units that are handed in, rows of many units, maps that grow by new keys. -/
import Derived.Test.YtnjabanjgckeoaaG13
namespace Go.Proofs.Ytnjabanjgckeoaa
open Go.RowKit
open Go.ChangeMaps (setBlock)
set_option linter.unusedVariables false
set_option linter.unusedSimpArgs false
set_option maxRecDepth 100000

/-- Each list is nil, or somewhere. -/
def UV.nilOk (x : UV) : Prop := ∀ v ∈ [x.v1, x.v2, x.v3, x.v4, x.v5, x.v6], v = .slice none 0 0 ∨ ∃ a n c, v = .slice (some a) n c
/-- A slice that reads as these units. -/
def UArg (w : World) (v : Value) (us : List GU) : Prop := ∃ a c xs, v = .slice a us.length c ∧ Units w xs us ∧ ∀ i (h : i < xs.length), (∃ b o, a = some ⟨b, o, none⟩ ∧ w.rangeAt b (o + i * 8) xs[i].cells) ∧ xs[i].nilOk
theorem UArg.later {w w' : World} {v : Value} {us : List GU} (h : UArg w v us) (hb : Below w.heap.size w w') : UArg w' v us := by
  obtain ⟨a, c, xs, e, hu, hr⟩ := h
  refine ⟨a, c, xs, e, hu.later hb, fun i hi => ?_⟩
  obtain ⟨⟨b, o, e1, h1⟩, h9⟩ := hr i hi
  exact ⟨⟨b, o, e1, fun j u hj => by
    have h2 := h1 j u hj
    exact (hb.cell (p := ⟨b, o + i * 8 + j, none⟩) (World.block_lt_of_cell? w ⟨b, o + i * 8 + j, none⟩ h2)).trans h2⟩, h9⟩
theorem Units.at {w : World} {xs : List UV} {us : List GU} (h : Units w xs us) : ∀ (i : Nat) (hi : i < xs.length) (hi2 : i < us.length), UVIs w xs[i] us[i] := by
  induction h with
  | nil => intro i hi; exact absurd hi (Nat.not_lt_zero _)
  | cons h1 _ ih =>
    intro i hi hi2
    cases i with
    | zero => exact h1
    | succ i => exact ih i (by simpa using hi) (by simpa using hi2)
/-- The rows of many units. -/
def rowsAll : List UV → List GU → List Rw
  | y :: ys, u :: us => rows6 y u ++ rowsAll ys us
  | _, _ => []
theorem rowsAll_snoc : ∀ (ys : List UV) (us : List GU) (y : UV) (u : GU), ys.length = us.length → rowsAll (ys ++ [y]) (us ++ [u]) = rowsAll ys us ++ rows6 y u := by
  intro ys
  induction ys with
  | nil => intro us y u h; cases us with | nil => simp [rowsAll] | cons a r => simp at h
  | cons a r ih =>
    intro us y u h
    cases us with
    | nil => simp at h
    | cons b s =>
      simp only [List.cons_append, rowsAll]
      rw [ih s y u (by simpa using h), List.append_assoc]
theorem Own.stsMem {W0 : Base} {w : World} {L : List Rw} {v : Value} {ls : List Nm} (h : Own W0 w L) (hm : rowSs v ls ∈ L) : Sts w v ls := by
  obtain ⟨A, B, e⟩ := List.append_of_mem hm
  rw [e] at h
  exact (h.perm List.perm_middle).sts
/-- Values that have these units' names and numbers. -/
inductive Like : List UV → List GU → Prop
  | nil : Like [] []
  | cons {y : UV} {u : GU} {ys : List UV} {us : List GU} : y.name = u.name → y.ret = u.ret → Like ys us → Like (y :: ys) (u :: us)
theorem Like.len {ys : List UV} {us : List GU} (h : Like ys us) : ys.length = us.length := by
  induction h with
  | nil => rfl
  | cons _ _ _ ih => simp [ih]
theorem Like.snoc {ys : List UV} {us : List GU} (h : Like ys us) {y : UV} {u : GU} (h1 : y.name = u.name) (h2 : y.ret = u.ret) : Like (ys ++ [y]) (us ++ [u]) := by
  induction h with
  | nil => exact .cons h1 h2 .nil
  | cons a b _ ih => exact .cons a b ih
theorem Like.names {ys : List UV} {us : List GU} (h : Like ys us) : ys.map (·.name) = namesU us := by
  induction h with
  | nil => rfl
  | cons a _ _ ih => simp [namesU, a] at ih ⊢; exact ih
theorem Like.units {W0 : Base} {w : World} {L : List Rw} (hO : Own W0 w L) {ys : List UV} {us : List GU} (h : Like ys us) (hs : ∀ r ∈ rowsAll ys us, r ∈ L) : Units w ys us := by
  induction h with
  | nil => exact .nil
  | @cons y u ys us a b _ ih =>
    have h6 : ∀ r ∈ rows6 y u, r ∈ L := fun r hr => hs r (List.mem_append_left _ hr)
    exact .cons ⟨a, b, hO.stsMem (h6 _ (by simp [rows6])), hO.stsMem (h6 _ (by simp [rows6])), hO.stsMem (h6 _ (by simp [rows6])), hO.stsMem (h6 _ (by simp [rows6])), hO.stsMem (h6 _ (by simp [rows6])), hO.stsMem (h6 _ (by simp [rows6]))⟩ (ih fun r hr => hs r (List.mem_append_right _ hr))
theorem putG_fresh {α β : Type} [DecidableEq α] {m : List (α × β)} {a : α} (h : a ∉ m.map (·.1)) (v : β) : put m a v = m ++ [(a, v)] := by
  induction m with
  | nil => rfl
  | cons p r ih =>
    simp only [List.map_cons, List.mem_cons, not_or] at h
    unfold put
    rw [if_neg (fun e => h.1 e.symm), ih h.2]; rfl
/-- What stands behind, as rows; as a map's entries. -/
def rowsB (us : List GU) : List Value → List Nm → List Rw
  | z :: zs, n :: ns => rowSs z (aheadU us n) :: rowsB us zs ns
  | _, _ => []
theorem rowsB_snoc (us : List GU) : ∀ (zs : List Value) (ns : List Nm) (z : Value) (n : Nm), zs.length = ns.length → rowsB us (zs ++ [z]) (ns ++ [n]) = rowsB us zs ns ++ [rowSs z (aheadU us n)] := by
  intro zs
  induction zs with
  | nil => intro ns z n h; cases ns with | nil => rfl | cons a r => simp at h
  | cons a r ih =>
    intro ns z n h
    cases ns with
    | nil => simp at h
    | cons b s =>
      simp only [List.cons_append, rowsB]
      rw [ih s z n (by simpa using h)]
def entsB (zs : List Value) (ns : List Nm) : List (Nm × Value) := ns.zip zs
theorem look_zip {ns : List Nm} {zs : List Value} (hl : zs.length = ns.length) (n : Nm) : (n ∉ ns → look (entsB zs ns) n = none) ∧ (n ∈ ns → ∃ z, look (entsB zs ns) n = some z ∧ ∀ us, rowSs z (aheadU us n) ∈ rowsB us zs ns) := by
  unfold entsB
  induction ns generalizing zs with
  | nil => exact ⟨fun _ => rfl, fun h => by cases h⟩
  | cons m r ih =>
    cases zs with
    | nil => simp at hl
    | cons z zs =>
      obtain ⟨i1, i2⟩ := ih (zs := zs) (by simpa using hl)
      by_cases hm : m = n
      · subst hm
        refine ⟨fun h => absurd (List.mem_cons_self ..) h, fun _ => ⟨z, ?_, fun us => List.mem_cons_self ..⟩⟩
        simp [List.zip, look]
      · have e : look ((m :: r).zip (z :: zs)) n = look (r.zip zs) n := by
          rw [List.zip_cons_cons]; conv => lhs; unfold look; rw [if_neg hm]
        rw [e]
        refine ⟨fun h => i1 fun h' => h (List.mem_cons_of_mem _ h'), fun h => ?_⟩
        rcases List.mem_cons.1 h with h | h
        · exact absurd h.symm hm
        · obtain ⟨z', h1, h2⟩ := i2 h
          exact ⟨z', h1, fun us => List.mem_cons_of_mem _ (h2 us)⟩
theorem entsB_snoc {zs : List Value} {ns : List Nm} (hl : zs.length = ns.length) (z : Value) (n : Nm) : entsB (zs ++ [z]) (ns ++ [n]) = entsB zs ns ++ [(n, z)] := by
  unfold entsB
  rw [List.zip_append hl.symm]; rfl
theorem entsB_keys {zs : List Value} {ns : List Nm} (hl : zs.length = ns.length) : (entsB zs ns).map (·.1) = ns := by
  show (ns.zip zs).map Prod.fst = ns
  exact List.map_fst_zip (by omega)
/-- A graph that is being made: the blocks of it and of its maps. -/
abbrev Blk (g bb bu : Nat) (c : Array Value) (ob ou : Obj) : Blocks := [(g, .cells c 49), (bb, ob), (bu, ou)]
theorem Blk.us {w : World} {g bb bu : Nat} {x y : Value} {ob ou : Obj} {wr : World} {L : List Rw} (h : Own ⟨w, Blk g bb bu #[.map (some bu), x, y] ob ou⟩ wr L) {ys : List UV} {us : List GU} (hl : Like ys us) (hs : ∀ r ∈ rowsAll ys us, r ∈ L) (hm : MapO keyN ou (entsU ys)) : UsAt wr g bu ys us :=
  ⟨by rw [h.cellB (b := g) (List.mem_cons_self ..)]; rfl, ⟨ou, h.at (List.mem_cons_of_mem _ (List.mem_cons_of_mem _ (List.mem_cons_self ..))), hm⟩, hl.units h hs⟩
theorem Blk.be {w : World} {g bb bu : Nat} {x y : Value} {ob ou : Obj} {wr : World} {L : List Rw} (h : Own ⟨w, Blk g bb bu #[x, .map (some bb), y] ob ou⟩ wr L) {us : List GU} {zs : List Value} {ns : List Nm} (hl : zs.length = ns.length) (hs : ∀ r ∈ rowsB us zs ns, r ∈ L) (hm : MapO keyN ob (entsB zs ns)) : BeAt wr g bb ns (aheadU us) :=
  ⟨by rw [h.cellB (b := g) (List.mem_cons_self ..)]; rfl, ob, _, h.at (List.mem_cons_of_mem _ (List.mem_cons_self ..)), hm, fun n hn => by
    obtain ⟨z, h1, h2⟩ := (look_zip hl n).2 hn
    exact ⟨z, h1, h.stsMem (hs _ (h2 us))⟩, fun n hn => (look_zip hl n).1 hn⟩
end Go.Proofs.Ytnjabanjgckeoaa
