/- What is asked of a tree, against the plain state. -/
import Derived.Test.YtamkfadammlhbaaGreatDoorTree31
namespace Go.Proofs.YtamkfadammlhbaaGreatDoor
open Go.RowKit
open Go.ChangeMaps (setBlock)
set_option linter.unusedVariables false
set_option linter.unusedSimpArgs false
set_option maxRecDepth 100000

theorem Live.later {w0 w w' : World} {L : List Rw} {t : Nat} {E : Et} (h : Live w0 L t E w) (hb : Below w.heap.size w w') : Live w0 L t E w' := by
  obtain ⟨S, L', T, h1, h2, h3, h4⟩ := h
  exact ⟨S, L', T, h1.later hb, h2, h3, h4⟩
theorem Live.join {w0 w w' : World} {L M : List Rw} {t : Nat} {E : Et} (h : Live w0 L t E w) (hM : Own w w' M) : Live w0 (M ++ L) t E w' := by
  obtain ⟨S, L', T, h1, h2, h3, h4⟩ := h
  refine ⟨S, M ++ L', T, h1.join hM, fun x hx => ?_, h3.mono (fun b x _ hx => hx) (fun v zs h => h.mono fun r hr => List.mem_append_right _ hr), h4⟩
  rcases List.mem_append.1 hx with hx | hx
  · exact List.mem_append_left _ hx
  · exact List.mem_append_right _ (h2 x hx)
theorem Live.less {w0 w : World} {L M : List Rw} {t : Nat} {E : Et} (h : Live w0 L t E w) (hs : ∀ x ∈ M, x ∈ L) : Live w0 M t E w := by
  obtain ⟨S, L', T, h1, h2, h3, h4⟩ := h
  exact ⟨S, L', T, h1, fun x hx => h2 x (hs x hx), h3, h4⟩
theorem Live.mx {w0 w : World} {L : List Rw} {t : Nat} {E : Et} (h : Live w0 L t E w) (hm : Mx w0) : Mx w := by
  obtain ⟨S, L', T, h1, _⟩ := h
  exact hm.later h1.below
theorem Live.by {w0 w : World} {L : List Rw} {t : Nat} {E : Et} (h : Live w0 L t E w) {v : Value} {zs : List Int} (hr : rowU v zs ∈ L) (hz : Byts zs) : By w v zs := by
  obtain ⟨S, L', T, h1, h2, _⟩ := h
  exact (h1.only (h2 _ hr)).by hz
def standE (E : Et) (l : List UInt8) : Option ENd := (if okP l then walkE E 1 (namesL l) else none).bind fun i => look E.nodes i
theorem Rep.stand {T : Tr} {E : Et} (h : Rep T E) (hd : (T.nodes.map (·.1)).Nodup) (l : List UInt8) : (standT T l).map Nd.er = standE E l := by
  unfold standT standE findT
  cases hk : okP l with
  | false => rfl
  | true =>
    simp only [if_true]
    rw [h.walk hd]
    cases walkE E 1 (namesL l) with
    | none => rfl
    | some i => exact h.look hd i
theorem live_read {w0 w : World} {L : List Rw} {t : Nat} {E : Et} (h : Live w0 L t E w) (hm : Mx w0) (s : ByteArray) (hs : s.size ≤ maxLen) {f : ENd} (hf : standE E s.data.toList = some f) (hd : f.dir = false) (hl : f.data.length ≤ 140737488355328) :
    Calls Tryz.prog 26 #[.pointer (some ⟨t, 0, none⟩), .string s] w fun e w' => ∃ v, e = .returned (.tuple #[v, .int .i64 0]) ∧ Live w0 (rowU v f.data :: L) t E w' := by
  have hmw := h.mx hm
  have hh := h
  obtain ⟨S, L', T, h1, h2, h3, h4⟩ := h
  have hst := h4.stand h3.good.keys s.data.toList
  rw [hf] at hst
  cases hn : standT T s.data.toList with
  | none => rw [hn] at hst; cases hst
  | some n =>
    rw [hn] at hst
    have e : n.er = f := by injection hst
    have hk : n.k = none := by
      have : n.k.isSome = false := (congrArg ENd.dir e).trans hd
      cases hk : n.k with
      | none => rfl
      | some k => rw [hk] at this; cases this
    have hda : n.data = f.data := congrArg ENd.data e
    refine (read_file h1 h3 s hs hmw hn hk (by rw [hda]; exact hl)).mono fun e w' hr => ?_
    obtain ⟨v, e1, e2⟩ := hr
    rw [hda] at e2
    exact ⟨v, e1, hh.join e2⟩
theorem live_used {w0 w : World} {L : List Rw} {t : Nat} {E : Et} (h : Live w0 L t E w) (hu : sumE E.nodes ≤ 1000000000) :
    Calls Tryz.prog 25 #[.pointer (some ⟨t, 0, none⟩)] w fun e w' => e = .returned (.int .i64 (sumE E.nodes : Nat)) ∧ Live w0 L t E w' := by
  have hh := h
  obtain ⟨S, L', T, h1, h2, h3, h4⟩ := h
  have := used_any (h3.at_.inWorld h1) (by rw [h4.sum]; exact hu)
  rw [h4.sum] at this
  exact this.mono fun e w' hr => ⟨hr.1, hh.later hr.2⟩
theorem live_nodes {w0 w : World} {L : List Rw} {t : Nat} {E : Et} (h : Live w0 L t E w) :
    Calls Tryz.prog 24 #[.pointer (some ⟨t, 0, none⟩)] w fun e w' => e = .returned (.int .i64 (E.nodes.length : Int)) ∧ w = w' := by
  obtain ⟨S, L', T, h1, h2, h3, h4⟩ := h
  have := nodes_any (h3.at_.inWorld h1)
  rwa [h4.count] at this
theorem live_dir {w0 w : World} {L : List Rw} {t : Nat} {E : Et} (h : Live w0 L t E w) (hm : Mx w0) (s : ByteArray) (hs : s.size ≤ maxLen) :
    Calls Tryz.prog 27 #[.pointer (some ⟨t, 0, none⟩), .string s] w fun e w' => e = .returned (.bool (match standE E s.data.toList with | some n => n.dir | none => false)) ∧ Live w0 L t E w' := by
  have hmw := h.mx hm
  have hh := h
  obtain ⟨S, L', T, h1, h2, h3, h4⟩ := h
  have hst := h4.stand h3.good.keys s.data.toList
  have hi := isdir_any (h3.at_.inWorld h1) h3.good s hs hmw
  have e : dirT T s.data.toList = (match standE E s.data.toList with | some n => n.dir | none => false) := by
    unfold dirT
    rw [← hst]
    cases standT T s.data.toList <;> rfl
  rw [e] at hi
  exact hi.mono fun e w' hr => ⟨hr.1, hh.later hr.2⟩
/-- The files that stand nowhere. -/
def looseE (l : List (Int × ENd)) : List Int := (l.filter fun p => !p.2.dir && (p.2.places == 0)).map (·.1)
theorem looseL_er (l : List (Int × Nd)) : looseL l = looseE (erL l) := by
  unfold looseL looseE erL
  induction l with
  | nil => rfl
  | cons p r ih =>
    simp only [List.map_cons, List.filter_cons]
    have e : p.2.loose = (!p.2.er.dir && (p.2.er.places == 0)) := rfl
    rw [e]
    split
    · simp only [List.map_cons]; rw [ih]
    · exact ih
theorem live_loose {w0 w : World} {L : List Rw} {t : Nat} {E : Et} (h : Live w0 L t E w) (hn : E.nodes.length ≤ 1000000) :
    Calls Tryz.prog 28 #[.pointer (some ⟨t, 0, none⟩)] w fun e w' => ∃ (v : Value) (zs : List Int), e = .returned v ∧ zs.Perm (looseE E.nodes) ∧ Live w0 (rowI v (zs.mergeSort fun x y => decide (x ≤ y)) :: L) t E w' := by
  have hh := h
  obtain ⟨S, L', T, h1, h2, h3, h4⟩ := h
  refine (loose_t (h3.at_.inWorld h1) (by rw [h4.count]; exact hn)).mono fun e w' hr => ?_
  obtain ⟨v, zs, e1, e2, e3⟩ := hr
  refine ⟨v, zs, e1, e2.trans ?_, hh.join e3⟩
  rw [looseL_er]
  exact (h4.nodes.filter _).map _
end Go.Proofs.YtamkfadammlhbaaGreatDoor
