/- Rows of bytes: a slice value that reads as bytes, a row of bytes that a call made, and calls that make rows alone. -/
import Derived.Test.YtjhaihckbmkiaaaDoorKOwn
import Derived.Deep.Draws
namespace Go.Proofs.YtjhaihckbmkiaaaDoor
open Go.RowKit
set_option linter.unusedVariables false
set_option linter.unusedSimpArgs false

/-- Bytes as a row's cells. -/
abbrev bs (l : List Int) : List Value := l.map (Value.int .u8)
def Byts (l : List Int) : Prop := ∀ z ∈ l, 0 ≤ z ∧ z < 256
theorem Byts.append {a b : List Int} (h : Byts a) (k : Byts b) : Byts (a ++ b) := fun z hz => by
  rcases List.mem_append.1 hz with h1 | h1
  · exact h z h1
  · exact k z h1
theorem Byts.take {a : List Int} (h : Byts a) (n : Nat) : Byts (a.take n) := fun z hz => h z (List.mem_of_mem_take hz)
theorem Byts.drop {a : List Int} (h : Byts a) (n : Nat) : Byts (a.drop n) := fun z hz => h z (List.mem_of_mem_drop hz)
theorem Byts.nil : Byts [] := fun z hz => by cases hz
theorem bs_length (l : List Int) : (bs l).length = l.length := by simp [bs]
theorem bs_one (l : List Int) : ∀ u ∈ bs l, u.oneCell' = true := by
  intro u hu
  obtain ⟨z, _, rfl⟩ := List.mem_map.1 hu
  rfl
theorem bs_append (a b : List Int) : bs (a ++ b) = bs a ++ bs b := by simp [bs]

theorem ownsRow_base {w : World} {b b' : Nat} {e : TypeId} {size : Nat} {v : Value} {n : Nat} {xs : List Value} (h : w.ownsRow b e size v n xs) (hb : b' ≤ b) : w.ownsRow b' e size v n xs := by
  refine ⟨h.1, ?_⟩
  rcases h.2 with h1 | ⟨g, cap, cur, h1, h2, h3⟩
  · exact .inl h1
  · exact .inr ⟨g, cap, cur, h1, Nat.le_trans hb h2, h3⟩
/-- What a call made is owned by the caller, beside what that owns. -/
theorem Own.join {W0 : Base} {w w' : World} {L M : List Rw} (h : Own W0 w L) (k : Own w w' M) : Own W0 w' (M ++ L) := by
  have hl := h.later k.below
  refine ⟨hl.below, fun p hp => ?_, ?_, hl.maps, fun m hm p hp => ?_⟩
  · rcases List.mem_append.1 hp with h1 | h1
    · exact ownsRow_base (k.rows p h1) h.size
    · exact hl.rows p h1
  · refine List.pairwise_append.2 ⟨k.apart, h.apart, fun p hp q hq => ?_⟩
    cases hb : p.v.ownBlock with
    | none => exact .inl rfl
    | some b =>
      right
      intro e
      have h1 : w.heap.size ≤ b := (k.lt hp hb).1
      have h2 := (h.lt hq e.symm).2
      omega
  · rcases List.mem_append.1 hp with h1 | h1
    · intro e
      have h2 := (k.lt h1 e).1
      have h3 := lt_of_heap (h.maps m hm).2
      have h4 : w.heap.size ≤ m.1 := h2
      omega
    · exact hl.offmaps m hm p h1
theorem Own.drewN {W0 : Base} {w : World} {L : List Rw} (h : Own W0 w L) {n : Nat} : Own W0 (w.drewN n) L :=
  ⟨h.below.trans ⟨rfl, rfl, rfl, Nat.le_refl _, fun _ _ => rfl⟩, fun p hp => h.rows p hp, h.apart, h.maps, h.offmaps⟩
/-- A row's value: so many elements, within a capacity. -/
theorem Own.sized {W0 : Base} {w : World} {e size n : Nat} {v : Value} {xs : List Value} {L : List Rw} (h : Own W0 w (⟨e, size, v, n, xs⟩ :: L)) : ∃ a c, v = .slice a n c ∧ n ≤ c ∧ c ≤ maxLen := by
  rcases h.head.2 with ⟨h2, h3⟩ | ⟨g, cp, cur, h2, _, _, h3, h4, _⟩
  · have h2' : v = .slice none 0 0 := h2
    have h3' : n = 0 := h3
    subst h3'
    exact ⟨_, _, h2', Nat.le_refl _, Nat.zero_le _⟩
  · exact ⟨_, _, h2, h3, h4⟩
theorem Own.src' {W0 : Base} {w : World} {e size n : Nat} {v : Value} {xs : List Value} {L : List Rw} (h : Own W0 w (⟨e, size, v, n, xs⟩ :: L)) (h1 : ∀ u ∈ xs, u.oneCell' = true) : Src w v n xs := by
  by_cases hn : n = 0
  · subst hn
    have hl := h.len
    have hx : xs = [] := by
      apply List.eq_nil_of_length_eq_zero
      have : xs.length = 0 * size := hl
      omega
    subst hx
    rcases h.head.2 with ⟨h2, _⟩ | ⟨g, cp, cur, h2, _⟩
    · exact .inl ⟨h2, rfl, rfl⟩
    · exact .inr ⟨_, cp, h2, fun j u hj => by simp at hj, h1⟩
  · obtain ⟨g, cap, rfl, _⟩ := h.form (by omega)
    refine .inr ⟨_, cap, rfl, fun j u hj => ?_, h1⟩
    have hl : xs.length = n * size := h.len
    have hlt : j < xs.length := by
      rcases Nat.lt_or_ge j xs.length with h2 | h2
      · exact h2
      · rw [List.getElem?_eq_none h2] at hj; cases hj
    rw [Addr.add_mid, Nat.zero_add, h.cell j (by omega)]
    exact hj

/-- A slice value that reads as bytes. -/
def By (w : World) (v : Value) (zs : List Int) : Prop :=
  Src w v zs.length (bs zs) ∧ Byts zs ∧ ∃ a c, v = .slice a zs.length c ∧ zs.length ≤ c ∧ c ≤ maxLen
/-- A row of bytes of the call's own. -/
def rowU (v : Value) (zs : List Int) : Rw := ⟨5, 1, v, zs.length, bs zs⟩
theorem Src.later {w w' : World} {v : Value} {m : Nat} {news : List Value} (h : Src w v m news) (hb : Below w.heap.size w w') : Src w' v m news := by
  rcases h with h | ⟨ad, c, hv, hc, h1⟩
  · exact .inl h
  · exact .inr ⟨ad, c, hv, fun j u hj => (hb.cell (p := ad.add j) (World.block_lt_of_cell? w _ (hc j u hj))).trans (hc j u hj), h1⟩
theorem By.later {w w' : World} {v : Value} {zs : List Int} (h : By w v zs) (hb : Below w.heap.size w w') : By w' v zs := ⟨h.1.later hb, h.2.1, h.2.2⟩
theorem By.drew {w : World} {v : Value} {zs : List Int} (h : By w v zs) : By w.drew v zs := h
theorem By.nil (w : World) : By w (.slice none 0 0) [] := ⟨.inl ⟨rfl, rfl, rfl⟩, Byts.nil, none, 0, rfl, Nat.le_refl _, Nat.zero_le _⟩
theorem Own.by {W0 : Base} {w : World} {v : Value} {zs : List Int} {L : List Rw} (h : Own W0 w (rowU v zs :: L)) (hz : Byts zs) : By w v zs := by
  have h' : Own W0 w (⟨5, 1, v, zs.length, bs zs⟩ :: L) := h
  exact ⟨h'.src' (bs_one zs), hz, h'.sized⟩
theorem Own.only {W0 : Base} {w : World} {L : List Rw} (h : Own W0 w L) {r : Rw} (hm : r ∈ L) : Own W0 w [r] := ⟨h.below, fun p hp => by rw [List.mem_singleton.1 hp]; exact h.rows r hm, List.pairwise_singleton _ _, h.maps, fun m hq p hp => by rw [List.mem_singleton.1 hp]; exact h.offmaps m hq r hm⟩
theorem By.cells {w : World} {v : Value} {zs : List Int} (h : By w v zs) (hne : 0 < zs.length) : ∃ g o c, v = .slice (some ⟨g, o, none⟩) zs.length c ∧ zs.length ≤ c ∧ c ≤ maxLen ∧ ∀ j (hj : j < zs.length), w.cell? ⟨g, o + j, none⟩ = some (.int .u8 zs[j]) := by
  obtain ⟨hs, hz, a, c, hv, h1, h2⟩ := h
  rcases hs with ⟨_, h0, _⟩ | ⟨ad, c', hv', hc, _⟩
  · omega
  · rw [hv] at hv'
    injection hv' with e1 e2 e3
    subst e1 e3
    obtain ⟨b, off, spot⟩ := ad
    have hc0 := hc 0 (.int .u8 zs[0]) (by simp [bs, hne])
    have hspot : spot = none := by simpa [Addr.add] using World.cell?_spot hc0
    subst hspot
    refine ⟨b, off, c, hv, h1, h2, fun j hj => ?_⟩
    have := hc j (.int .u8 zs[j]) (by simp [bs, hj])
    rwa [Addr.add_mid] at this
theorem wf_byte {n : Int} (h : (Lit.int .u8 n).wf = true) : 0 ≤ n ∧ n < 256 := by
  have h1 : IntKind.u8.min = 0 := rfl
  have h2 : IntKind.u8.max = 255 := rfl
  simp only [Lit.wf, Bool.and_eq_true, decide_eq_true_eq] at h
  omega
/-- A slice of bytes that came in. -/
theorem by_arg (w : World) (x : Addr) (len cap : Nat) (zs : List Int) (hl : len ≤ cap) (hm : cap ≤ maxLen) (hz : zs.length = cap) (hcell : ∀ i, i < zs.length → w.cell? (x.add i) = some (.int .u8 (zs.getD i 0))) (hwz : ∀ n ∈ zs, (Lit.int .u8 n).wf = true) :
    By w (.slice (some x) len cap) (zs.take len) := by
  have e : (zs.take len).length = len := by rw [List.length_take]; omega
  refine ⟨?_, fun n hn => wf_byte (hwz n (List.mem_of_mem_take hn)), some x, cap, by rw [e], by rw [e]; exact hl, hm⟩
  rw [e]
  refine .inr ⟨x, cap, rfl, fun j u hj => ?_, bs_one _⟩
  have hlt : j < len := by
    rcases Nat.lt_or_ge j len with h3 | h3
    · exact h3
    · rw [List.getElem?_eq_none (by rw [bs_length, e]; exact h3)] at hj; cases hj
  rw [hcell j (by omega), ← hj]
  simp [bs, List.getElem?_take, hlt, List.getD_eq_getElem?_getD, List.getElem?_eq_getElem (show j < zs.length by omega)]
/-- The number's four bytes. -/
def le4 (n : Int) : List Int := [n % 256, n / 256 % 256, n / 65536 % 256, n / 16777216]
theorem le4_byts (n : Int) (h0 : 0 ≤ n) (h1 : n < 4294967296) : Byts (le4 n) := by
  intro z hz
  simp only [le4, List.mem_cons, List.not_mem_nil, or_false] at hz
  rcases hz with rfl | rfl | rfl | rfl <;> omega
/-- The bytes of a text. -/
def sb (s : ByteArray) : List Int := s.data.toList.map fun x => (x.toNat : Int)
theorem sb_length (s : ByteArray) : (sb s).length = s.size := by simp [sb]
theorem sb_byts (s : ByteArray) : Byts (sb s) := by
  intro z hz
  obtain ⟨x, _, rfl⟩ := List.mem_map.1 hz
  have := x.toNat_lt
  omega
end Go.Proofs.YtjhaihckbmkiaaaDoor
