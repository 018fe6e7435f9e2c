/- Pieces that come in as an argument: they lie as 'Tot' says. -/
import Derived.Test.YtgkkebenbpbhnaaRPart
import Derived.ProofKit
import Derived.SizedLaws
namespace Go.Proofs.Ytgkkebenbpbhnaa
open Go.ChangeShapes Go.WideShapes Go.ChangeAt Go.RowKit
set_option linter.unusedVariables false
set_option linter.unusedSimpArgs false

theorem cellsP : Try.prog.cellsOf 29 = 4 := by kernel_rfl
theorem cellsPI : Try.prog.cellsOf 3 = 1 := by kernel_rfl
theorem cellsPW : Try.prog.cellsOf 27 = 1 := by kernel_rfl
theorem cellsPU : Try.prog.cellsOf 26 = 1 := by kernel_rfl
theorem cellsPL : Try.prog.cellsOf 22 = 1 := by kernel_rfl
theorem bytesPU : Try.prog.bytesOf 5 = 1 := by kernel_rfl

theorem mapM_range_get' {β : Type} {f : Nat → Option β} : ∀ (n : Nat) (l : List β), (List.range n).mapM f = some l → l.length = n ∧ ∀ i, i < n → f i = l[i]? := by
  intro n
  induction n with
  | zero => intro l h; simp at h; subst h; exact ⟨rfl, fun i hi => by omega⟩
  | succ n ih =>
    intro l h
    rw [List.range_succ, List.mapM_append] at h
    cases h1 : (List.range n).mapM f with
    | none => rw [h1] at h; simp at h
    | some l1 =>
      rw [h1] at h
      cases h2 : f n with
      | none => simp [h2] at h
      | some y =>
        simp [h2] at h
        subst h
        obtain ⟨e1, e2⟩ := ih l1 h1
        refine ⟨by simp [e1], fun i hi => ?_⟩
        by_cases hin : i = n
        · subst hin; rw [h2, List.getElem?_append_right (by omega), e1, Nat.sub_self]; rfl
        · rw [e2 i (by omega), List.getElem?_append_left (by omega)]
theorem Tot.none (f : Nat) (w : World) (a : Option Addr) : Tot f w a 0 0 := by
  cases f with
  | zero => exact ⟨rfl, rfl⟩
  | succ f => exact ⟨[], rfl, rfl, by decide, fun i hi => by simp at hi⟩
theorem mem_weightsAll {H : Type} {P : Program} {e : TypeId} {d : DataW H} {m : Nat} : ∀ {l : List (DataW H)}, d ∈ l → m ∈ d.weights P e → m ∈ DataW.weightsAll P e l
  | [], h, _ => by cases h
  | x :: r, h, hm => by
    unfold DataW.weightsAll
    rw [List.mem_append]
    rcases List.mem_cons.1 h with rfl | h
    · exact .inl hm
    · exact .inr (mem_weightsAll h hm)

set_option maxRecDepth 100000 in
theorem pieces_tot {H : Type} {enc : TypeId × Value → H} {w : World} {base : Nat} {held : Bool} (fuel : Nat) : ∀ {cs : List Value} {x : DataW H × List MemPlace},
    DataW.trod enc Try.prog w base (fun _ => true) held fuel 22 cs = some x → (∀ m ∈ x.1.weights Try.prog 22, m ≤ reachBytes) →
    ∃ a n c t, cs = [.slice a n c] ∧ ∀ f, fuel ≤ f → Tot f w a n t := by
  induction fuel using Nat.strongRecOn with
  | ind fuel ih =>
  intro cs x h hwt
  rcases DataW.trod_slice Try.underlying22 h with ⟨rfl, _⟩ | ⟨ad, len, cap, elems, rest, n, hfu, rfl, rfl, hb, hl, hm, hlen, hel, _, _⟩
  · exact ⟨none, 0, 0, 0, rfl, fun f _ => Tot.none f w none⟩
  · have hone : ∀ i, i < len → ∃ ti : Nat, ∃ (b off : Nat) (k N : Int) (bv : Value) (la : Option Addr) (ln lc : Nat) (zs : List Int) (u : Nat),
        (some ad : Option Addr) = some ⟨b, off, none⟩ ∧ w.rangeAt b (off + i * 4) (pcCells k N bv la ln lc) ∧ 0 ≤ N ∧ N < 4294967296 ∧ By w bv zs ∧ zs.length ≤ 140737488351232 ∧ (∀ f, n - 1 ≤ f → Tot f w la ln u) ∧ ti = 1 + zs.length + u := by
      intro i hi
      have he := hel i hi
      have hie : i < elems.length := by omega
      rw [List.getElem?_eq_getElem hie] at he
      obtain ⟨cs', hc, ht⟩ := Option.bind_eq_some_iff.1 he
      have hy : (elems[i]).1 ∈ elems.map (·.1) := List.mem_map_of_mem (List.getElem_mem hie)
      generalize elems[i] = y at *
      have hwy : ∀ m ∈ y.1.weights Try.prog 29, m ≤ reachBytes := fun m hm => hwt m (by
        unfold DataW.weights
        rw [Try.underlying22]
        exact List.mem_cons_of_mem _ (List.mem_append_left _ (mem_weightsAll hy hm)))
      rw [cellsP] at hc
      obtain ⟨xs, n', hn', hx, hcl, hxl, hf⟩ := DataW.trod_struct Try.underlying29 ht
      rw [cellsP] at hcl
      obtain ⟨c0, c1, c2, c3, rfl⟩ : ∃ c0 c1 c2 c3, cs' = [c0, c1, c2, c3] := by
        match cs', hcl with
        | [c0, c1, c2, c3], _ => exact ⟨c0, c1, c2, c3, rfl⟩
      obtain ⟨x0, x1, x2, x3, rfl⟩ : ∃ x0 x1 x2 x3, xs = [x0, x1, x2, x3] := by
        match xs, hxl with
        | [c0, c1, c2, c3], _ => exact ⟨c0, c1, c2, c3, rfl⟩
      have t0 := hf 0 _ rfl
      have t1 := hf 1 _ rfl
      have t2 := hf 2 _ rfl
      have t3 := hf 3 _ rfl
      simp only [cellsPI, cellsPW, cellsPU, cellsPL, List.drop_zero, List.drop_succ_cons, List.take_succ_cons, List.take_zero, List.getElem?_cons_zero, List.getElem?_cons_succ] at t0 t1 t2 t3
      obtain ⟨k, e0, _, w0⟩ := DataW.trod_int Try.underlying3 t0
      obtain ⟨N, e1, _, w1⟩ := DataW.trod_int Try.underlying27 t1
      injection e0 with e0 _; injection e1 with e1 _
      subst e0 e1
      have hwe : ∀ (j : Nat) (t : TypeId) (d : DataW H), [3, 27, 26, 22][j]? = some t → [x0.1, x1.1, x2.1, x3.1][j]? = some d → ∀ m ∈ d.weights Try.prog t, m ≤ reachBytes := by
        intro j t d hjt hjd m hm
        refine hwy m ?_
        rw [hx]
        unfold DataW.weights
        rw [Try.underlying29]
        exact DataW.weights_mem_each hjt hjd m hm
      obtain ⟨la, ln, lc, u, e3, hT⟩ := ih n' (by omega) t3 (hwe 3 _ _ rfl rfl)
      injection e3 with e3 _
      subst e3
      obtain ⟨zs, bv, e2, hBy, hzl⟩ : ∃ zs bv, c2 = bv ∧ By w bv zs ∧ zs.length ≤ 140737488351232 := by
        rcases open_ints Try.underlying26 Try.underlying5 (by kernel_rfl) t2 with ⟨hcs, _⟩ | ⟨xa, l, c, zs, hcs, _, hl', hm', hz', hxx, hcell, hwz⟩
        · injection hcs with hcs _
          exact ⟨[], _, hcs, By.nil w, by simp⟩
        · injection hcs with hcs _
          have hz2 : zs.length = c := by simpa using hz'
          refine ⟨zs.take l, _, hcs, by_arg w _ _ _ zs hl' hm' hz2 hcell hwz, ?_⟩
          have h2 := hwe 2 _ _ rfl rfl
          rw [hxx] at h2
          have h3 := h2 (((lits .u8 (zs.take l) : List (DataW H)).length + (lits .u8 (zs.drop l) : List (DataW H)).length) * Try.prog.bytesOf 5) (by
            unfold DataW.weights
            rw [Try.underlying26]
            exact List.mem_cons_self ..)
          rw [bytesPU] at h3
          simp [lits] at h3
          unfold reachBytes at h3
          rw [List.length_take]
          omega
      subst e2
      unfold World.cells? at hc
      rw [if_pos (show base ≤ (ad.add (i * 4)).block from by unfold Addr.add; split <;> exact hb)] at hc
      obtain ⟨_, hg⟩ := mapM_range_get' 4 _ hc
      obtain ⟨b, off, spot⟩ := ad
      have hspot : spot = none := by
        have he0 := hel 0 (by omega)
        rw [List.getElem?_eq_getElem (by omega : 0 < elems.length)] at he0
        obtain ⟨cs0, hc0, _⟩ := Option.bind_eq_some_iff.1 he0
        rw [cellsP] at hc0
        unfold World.cells? at hc0
        rw [if_pos (show base ≤ ((⟨b, off, spot⟩ : Addr).add (0 * 4)).block from by unfold Addr.add; split <;> exact hb)] at hc0
        obtain ⟨g1, g2⟩ := mapM_range_get' 4 _ hc0
        have g3 := g2 0 (by decide)
        rw [List.getElem?_eq_getElem (by omega)] at g3
        have := World.cell?_spot g3
        simpa [Addr.add] using this
      subst hspot
      have hwN : 0 ≤ N ∧ N < 4294967296 := by
        simp only [Lit.wf, Bool.and_eq_true, decide_eq_true_eq] at w1
        have m1 : IntKind.u32.min = 0 := by decide
        have m2 : IntKind.u32.max = 4294967295 := by decide
        rw [m1, m2] at w1
        omega
      refine ⟨1 + zs.length + u, b, off, k, N, _, la, ln, lc, zs, u, rfl, fun j v hj => ?_, hwN.1, hwN.2, hBy, hzl, fun f hf => hT f (by omega), rfl⟩
      have hj4 : j < 4 := by
        rcases Nat.lt_or_ge j 4 with h2 | h2
        · exact h2
        · rw [List.getElem?_eq_none (by simpa [pcCells] using h2)] at hj; cases hj
      have := hg j hj4
      rw [Addr.add_mid, Addr.add_mid] at this
      rw [this]; exact hj
    obtain ⟨ts, h1, h2⟩ := exists_list len _ hone
    refine ⟨some ad, len, cap, ts.sum, rfl, fun f hf => ?_⟩
    obtain ⟨f', rfl⟩ : ∃ f', f = f' + 1 := ⟨f - 1, by omega⟩
    refine ⟨ts, h1, rfl, by unfold maxLen at hm; omega, fun i hi => ?_⟩
    obtain ⟨b, off, k, N, bv, la, ln, lc, zs, u, q1, q2, q3, q4, q5, q6, q7, q8⟩ := h2 i hi
    exact ⟨b, off, k, N, bv, la, ln, lc, zs, u, q1, q2, q3, q4, q5, q6, q7 f' (by omega), q8⟩
end Go.Proofs.Ytgkkebenbpbhnaa
