/- The package that bytes are, whichever they are. -/
import Derived.Test.YtihnjhigemhknaaGreatDoorAr13
namespace Go.Proofs.YtihnjhigemhknaaGreatDoor
open Go.RowKit
set_option linter.unusedVariables false
set_option linter.unusedSimpArgs false
set_option maxRecDepth 100000

theorem Rd.back {W0 : Base} {w : World} {X L : List Rw} {r r2 : Nat} {v : Value} {zs zs2 : List Int} {bad bad2 : Bool} (h : Rd W0 w (X ++ (rowR r v bad :: L)) r2 zs2 bad2) (hp : Pc L v zs) : Rd W0 w (X ++ L) r zs bad := by
  obtain ⟨v2, h1, _⟩ := h
  exact ⟨v, h1.tail.perm List.perm_middle, hp.mono fun x hx => List.mem_append_right _ hx⟩
theorem flat_at {α : Type} (cells : α → List Value) (size : Nat) (hs : ∀ x, (cells x).length = size) : ∀ (ns : List α) (i : Nat) (h : i < ns.length), (((ns.map cells).flatten).drop (i * size)).take size = cells ns[i]
  | x :: ns, 0, _ => by
    simp only [List.map_cons, List.flatten_cons, Nat.zero_mul, List.drop_zero, List.getElem_cons_zero]
    rw [List.take_append_of_le_length (by rw [hs]; exact Nat.le_refl _), ← hs x, List.take_length]
  | x :: ns, i + 1, h => by
    simp only [List.map_cons, List.flatten_cons, List.getElem_cons_succ]
    rw [Nat.add_mul, Nat.one_mul, List.drop_append, hs, List.drop_of_length_le (by rw [hs]; omega), List.nil_append, Nat.add_sub_cancel]
    exact flat_at cells size hs ns i (by simpa using h)
theorem rowE_slc {α : Type} {W0 : Base} {w : World} {L : List Rw} {T : TypeId} {size : Nat} {cells : α → List Value} {v : Value} {ns : List α} (h : Own W0 w L) (hm : rowE T size cells v ns ∈ L) (hs : ∀ x, (cells x).length = size) : ∃ a c, v = .slice a ns.length c ∧ ns.length ≤ c ∧ SlcA w a size (ns.map cells) := by
  have h1 : Own W0 w (⟨T, size, v, ns.length, (ns.map cells).flatten⟩ :: []) := h.only hm
  obtain ⟨a, c, hv, hc, _⟩ := Own.sized (h := h1)
  refine ⟨a, c, hv, hc, fun i hi => ?_⟩
  have hi' : i < ns.length := by simpa using hi
  obtain ⟨g, cap, e, _⟩ := Own.form (h := h1) (by omega)
  rw [e] at hv h1
  injection hv with e1 _ _
  refine ⟨g, 0, e1.symm, ?_⟩
  have h2 := Own.range (h := h1) (i * size) size
  rw [flat_at cells size hs ns i hi'] at h2
  rw [Nat.zero_add, List.getElem_map]
  exact h2
/-- What a reader gives as a list's inside. -/
def inL (zs : List Int) : List Int × Bool := ((bodP 16777216 zs false).1, (bodP 16777216 zs false).2.2)
def outL (zs : List Int) (bad : Bool) : List Int × Bool := ((bodP 16777216 zs bad).2.1, (bodP 16777216 zs bad).2.2)
def tkT {α : Type} (f : List Int → Bool → α × List Int × Bool) (s : List Int × Bool) : List α := runT f (inL s.1).1.length (inL s.1).1 (inL s.1).2
def un1 (zs : List Int) : List Int × Bool := (bodP mxI zs false).2
def un2 (zs : List Int) : List Int × Bool := (bodP mxI (un1 zs).1 (un1 zs).2).2
def un3 (zs : List Int) : List Int × Bool := outL (un2 zs).1 (un2 zs).2
def un4 (zs : List Int) : List Int × Bool := outL (un3 zs).1 (un3 zs).2
def un5 (zs : List Int) : List Int × Bool := outL (un4 zs).1 (un4 zs).2
/-- A package is what bytes say. -/
structure Says (zs : List Int) (D : PkgD) : Prop where
  name : D.name = strOfNums (bodP mxI zs false).1
  ver : D.ver = strOfNums (bodP mxI (un1 zs).1 (un1 zs).2).1
  needs : D.needs = tkT needT (un2 zs)
  confs : D.confs = tkT textT (un3 zs)
  files : D.files.map trip = tkT fileT (un4 zs)
  units : D.units = tkT textT (un5 zs)
theorem inL_len (zs : List Int) : (inL zs).1.length ≤ zs.length := by
  unfold inL bodP
  dsimp only
  split
  · unfold bodyOf
    rw [List.length_take, List.length_drop]; omega
  · simp
theorem outL_len (zs : List Int) (bad : Bool) : (outL zs bad).1.length ≤ zs.length := (bodP_le 16777216 zs bad).1
theorem un_len (zs : List Int) : (un1 zs).1.length ≤ zs.length ∧ (un2 zs).1.length ≤ zs.length ∧ (un3 zs).1.length ≤ zs.length ∧ (un4 zs).1.length ≤ zs.length ∧ (un5 zs).1.length ≤ zs.length := by
  have h1 : (un1 zs).1.length ≤ zs.length := (bodP_le mxI zs false).1
  have h2 : (un2 zs).1.length ≤ (un1 zs).1.length := (bodP_le mxI (un1 zs).1 (un1 zs).2).1
  have h3 : (un3 zs).1.length ≤ (un2 zs).1.length := outL_len _ _
  have h4 : (un4 zs).1.length ≤ (un3 zs).1.length := outL_len _ _
  have h5 : (un5 zs).1.length ≤ (un4 zs).1.length := outL_len _ _
  omega
/-- The next list's inside is a reader of its own; what is taken off it lies beside the outer one. -/
theorem alist_any {W0 : Base} {w : World} {L : List Rw} {r : Nat} {s : List Int × Bool} (h : Rd W0 w L r s.1 s.2) :
    Calls Tryz.prog 57 #[.pointer (some ⟨r, 0, none⟩)] w fun e w' => ∃ r2 v, e = .returned (.pointer (some ⟨r2, 0, none⟩)) ∧ Rd W0 w' (rowR r v (outL s.1 s.2).2 :: L) r2 (inL s.1).1 (inL s.1).2 ∧ Pc L v (outL s.1 s.2).1 :=
  h.list.mono fun e w' ⟨r2, he, h2⟩ => by
    obtain ⟨v, hp, hi⟩ := h2.inner
    exact ⟨r2, v, he, hi, hp⟩
def rowP6 (H : Nat) (cs : List Value) : Rw := ⟨26, 6, .slice (some ⟨H, 0, none⟩) 1 1, 1, cs⟩
abbrev zP6 : List Value := [.string ⟨#[]⟩, .string ⟨#[]⟩, .slice none 0 0, .slice none 0 0, .slice none 0 0, .slice none 0 0]
theorem p6_cells {W0 : Base} {w : World} {L : List Rw} {H : Nat} {a b c d e f : Value} (h : Own W0 w L) (hm : rowP6 H [a, b, c, d, e, f] ∈ L) : (w.cell? ⟨H, 0, none⟩ = some a ∧ w.cell? ⟨H, 1, none⟩ = some b ∧ w.cell? ⟨H, 2, none⟩ = some c ∧ w.cell? ⟨H, 3, none⟩ = some d ∧ w.cell? ⟨H, 4, none⟩ = some e ∧ w.cell? ⟨H, 5, none⟩ = some f) ∧ (w.frozen? ⟨H, 0, none⟩ = false ∧ w.frozen? ⟨H, 1, none⟩ = false ∧ w.frozen? ⟨H, 2, none⟩ = false ∧ w.frozen? ⟨H, 3, none⟩ = false ∧ w.frozen? ⟨H, 4, none⟩ = false ∧ w.frozen? ⟨H, 5, none⟩ = false) ∧ w.rangeAt H 0 [a, b, c, d, e, f] := by
  have h1 := h.only hm
  exact ⟨⟨Own.cell (h := h1) 0 (by decide), Own.cell (h := h1) 1 (by decide), Own.cell (h := h1) 2 (by decide), Own.cell (h := h1) 3 (by decide), Own.cell (h := h1) 4 (by decide), Own.cell (h := h1) 5 (by decide)⟩, ⟨Own.free (h := h1) 0, Own.free (h := h1) 1, Own.free (h := h1) 2, Own.free (h := h1) 3, Own.free (h := h1) 4, Own.free (h := h1) 5⟩, Own.range (h := h1) 0 6⟩
theorem p6_set {W0 : Base} {w : World} {A B : List Rw} {H : Nat} {cs : List Value} (h : Own W0 w (A ++ rowP6 H cs :: B)) (hl : cs.length = 6) (ds : List Value) (hd : ds.length = 6) : Own W0 (w.setCells H 0 ds) (rowP6 H ds :: (A ++ B)) := by
  have h1 := h.perm List.perm_middle
  have h2 := Own.setCells (h := (show Own W0 w (⟨26, 6, .slice (some ⟨H, 0, none⟩) 1 1, 1, cs⟩ :: (A ++ B)) from h1)) ds 0
  rw [splice_all' cs ds (by omega)] at h2
  exact h2
end Go.Proofs.YtihnjhigemhknaaGreatDoor
