/- Do, against the plain state. -/
import Derived.Test.YtamkfadammlhbaaGreatDoorTree24
namespace Go.Proofs.YtamkfadammlhbaaGreatDoor
open Go.RowKit
open Go.ChangeMaps (setBlock)
set_option linter.unusedVariables false
set_option linter.unusedSimpArgs false
set_option maxRecDepth 100000

def doAllE (E : Et) : List OpE → Option Et
  | [] => some E
  | o :: r => (doE E o).bind fun E2 => doAllE E2 r
theorem doAllE_append (a b : List OpE) : ∀ E, doAllE E (a ++ b) = (doAllE E a).bind fun E2 => doAllE E2 b := by
  induction a with
  | nil => intro E; rfl
  | cons o r ih =>
    intro E
    simp only [List.cons_append, doAllE]
    cases doE E o with
    | none => rfl
    | some E2 => exact ih E2
theorem takeEx_next (E : Et) (j : Int) (name : ByteArray) : (takeEx E j name).next = E.next := by
  unfold takeEx
  split
  · rfl
  · split
    · rfl
    · split <;> rfl
theorem putEx_next (E : Et) (j : Int) (name : ByteArray) (i : Int) : (putEx E j name i).next = E.next := by
  unfold putEx
  split <;> rfl
theorem doE_next {E E' : Et} {o : OpE} (h : doE E o = some E') : E.next ≤ E'.next ∧ E'.next ≤ E.next + 1 := by
  unfold doE at h
  repeat' split at h
  all_goals first
    | (cases h; done)
    | (injection h with h
       subst h
       try simp only [mkdirE, createE, putEx_next, takeEx_next]
       omega)
theorem doAllE_next : ∀ (l : List OpE) {E E' : Et}, doAllE E l = some E' → E.next ≤ E'.next ∧ E'.next ≤ E.next + l.length := by
  intro l
  induction l with
  | nil => intro E E' h; injection h with h; subst h; simp
  | cons o r ih =>
    intro E E' h
    simp only [doAllE] at h
    cases h1 : doE E o with
    | none => rw [h1] at h; cases h
    | some E2 =>
      rw [h1] at h
      have h2 := ih h
      have h3 := doE_next h1
      simp only [List.length_cons]
      omega
/-- An operation in memory, and as plain data. -/
structure OpIn (w0 : World) (S : Blocks) (L : List Rw) (o : OpD) (x : OpE) : Prop where
  kind : x.kind = o.kind
  l : x.l = o.p.data.toList
  l2 : x.l2 = o.q.data.toList
  p : o.p.size ≤ maxLen
  q : o.q.size ≤ maxLen
  n : o.n = x.zs.length
  data : Byo w0 S [] L (.slice o.a o.n o.c) x.zs
set_option maxHeartbeats 1000000 in
theorem Do_ok {w0 w : World} {S : Blocks} {L : List Rw} {t : Nat} {T : Tr} {E E' : Et} (hO : Own ⟨w0, S⟩ w L) (H : Tree S (Pc L) t T) (hR : Rep T E) (hmx : Mx w0) (g off : Nat) (ops : List OpD) (xs : List OpE) (cap : Nat) (hlen : xs.length = ops.length) (hn : ops.length ≤ 1000000)
    (hops : ∀ w' S' L', Own ⟨w0, S'⟩ w' L' → (∀ b x, (b, x) ∈ S → (b, x) ∈ S') → ∀ i (h : i < ops.length), w'.rangeAt g (off + i * 4) ops[i].cells) (hin : ∀ i (h : i < ops.length), OpIn w0 S L ops[i] (xs[i]'(by omega)))
    (hE : doAllE E xs = some E') (h1 : 1 ≤ E.next) (h2 : E.next ≤ 900000000) (h3 : E'.nodes.length ≤ 128) (h4 : (sumE E'.nodes : Int) ≤ E'.quota) (h5 : sumE E'.nodes ≤ 1000000000) :
    Calls Tryz.prog 14 #[.pointer (some ⟨t, 0, none⟩), .slice (some ⟨g, off, none⟩) ops.length cap] w (DoL w0 S L t T w (fun T' => Rep T' E') (.int .i64 0)) := by
  have hmx' : ∀ S' L' w', Own ⟨w0, S'⟩ w' L' → Mx w' := fun S' L' w' h => hmx.later h.below
  have hall := do_all hO H (hmx' _ _ _ hO) hmx' g off ops cap hn hops (P := fun i T' => ∃ Ei, doAllE E (xs.take i) = some Ei ∧ Rep T' Ei) (fun T' hs => ⟨E, rfl, hR.same hs⟩)
    (fun c i hi S' L' T' w' k1 k2 k3 ks kh hP k5 => by
      obtain ⟨Ei, e1, e2⟩ := hP
      have hx : i < xs.length := by omega
      have hi' := hin i hi
      have hsucc : xs.take (i + 1) = xs.take i ++ [xs[i]] := by rw [List.take_succ_eq_append_getElem hx]
      have hfull := hE
      rw [show xs = xs.take i ++ (xs[i] :: xs.drop (i + 1)) by rw [← List.drop_eq_getElem_cons hx, List.take_append_drop], doAllE_append, e1] at hfull
      simp only [Option.bind_some, doAllE] at hfull
      cases hd : doE Ei xs[i] with
      | none => rw [hd] at hfull; cases hfull
      | some E2 =>
        have hnx := doAllE_next _ e1
        rw [List.length_take] at hnx
        have hx2 : doE Ei ⟨ops[i].kind, ops[i].p.data.toList, ops[i].q.data.toList, xs[i].zs⟩ = some E2 := by
          rw [← hd]
          congr 1
          rw [← hi'.kind, ← hi'.l, ← hi'.l2]
        have hdata := hi'.data.mono (F' := c :: T'.foot) ks (fun b x hb _ hm => absurd (kh b hm) (by have := (hO.atLt hb).2; omega)) k2
        have hnn := hi'.n
        have hst := do_step k1 k3 e2 k5 ops[i].kind ops[i].p ops[i].q hi'.p hi'.q (va := ops[i].a) (vc := ops[i].c) (zs := xs[i].zs) (by rw [← hnn]; exact hdata) (by rw [e2.next]; omega) (by rw [e2.next]; omega) hx2
        rw [← hnn] at hst
        exact hst.mono fun e w2 hd2 => hd2.imp fun T2 hT2 => ⟨E2, by rw [hsucc, doAllE_append, e1]; simp only [Option.bind_some, doAllE, hd], hT2⟩)
    (fun T' hP => by
      obtain ⟨Ei, e1, e2⟩ := hP
      rw [← hlen, List.take_length, hE] at e1
      injection e1 with e1
      subst e1
      rw [e2.sum, e2.count, e2.quota]
      exact ⟨h5, h3, h4⟩)
  exact hall.mono fun e w2 hd2 => hd2.imp fun T2 hT2 => by
    obtain ⟨Ei, e1, e2⟩ := hT2
    rw [← hlen, List.take_length, hE] at e1
    injection e1 with e1
    subst e1
    exact e2
end Go.Proofs.YtamkfadammlhbaaGreatDoor
