/- A package, four bytes, as arguments. -/
import Derived.Test.YtihnjhigemhknaaGreatDoorAr26
import Derived.Test.YtihnjhigemhknaaGreatDoorRows
import Derived.Deep.Slices
import Derived.Deep.Strs
import Derived.Lib.SmallJoins
import Derived.WideShapes
import Derived.ProofKit
import Derived.OpenShut
namespace Go.Proofs.YtihnjhigemhknaaGreatDoor
open Go.RowKit Go.WideShapes Go.ChangeShapes Go.ChangeAt
set_option linter.unusedVariables false
set_option linter.unusedSimpArgs false
set_option maxRecDepth 100000

theorem choose_listA {β : Type} {P : Nat → β → Prop} : ∀ (n : Nat), (∀ i < n, ∃ y, P i y) → ∃ l : List β, l.length = n ∧ ∀ i (hi : i < l.length), P i l[i] := by
  intro n
  induction n with
  | zero => intro _; exact ⟨[], rfl, fun i hi => absurd hi (by simp)⟩
  | succ n ih =>
    intro h
    obtain ⟨l, h1, h2⟩ := ih fun i hi => h i (by omega)
    obtain ⟨y, hy⟩ := h n (Nat.lt_succ_self n)
    refine ⟨l ++ [y], by simp [h1], fun i hi => ?_⟩
    by_cases hin : i < l.length
    · rw [List.getElem_append_left hin]; exact h2 i hin
    · have : i = l.length := by simp at hi; omega
      subst this
      simp only [List.getElem_append_right (Nat.le_refl _), Nat.sub_self, List.getElem_cons_zero]
      rw [h1]; exact hy
theorem spot_zeroA {ad : Addr} {w : World} {v : Value} (h : w.cell? (ad.add 0) = some v) : ad.spot = none := by
  have := World.cell?_spot h
  unfold Addr.add at this
  rwa [if_pos rfl] at this
theorem spot_cellsA {w : World} {base n : Nat} {ad : Addr} {cs : List Value} (h : w.cells? base (ad.add (0 * n)) n = some cs) (hn : 0 < n) : ad.spot = none := by
  obtain ⟨_, h2, h3⟩ := World.cells?_some h
  have h0 := h3 0 hn
  rw [List.getElem?_eq_getElem (by omega), Nat.zero_mul] at h0
  have e : (ad.add 0) = ad := by unfold Addr.add; rw [if_pos rfl]
  rw [e] at h0
  exact spot_zeroA h0
theorem cells_atA {w : World} {base k n : Nat} {ad : Addr} {cs : List Value} (h : w.cells? base (ad.add k) n = some cs) (hs : ad.spot = none) : ∃ b off, ad = ⟨b, off, none⟩ ∧ w.rangeAt b (off + k) cs ∧ cs.length = n := by
  obtain ⟨_, h2, h3⟩ := World.cells?_some h
  obtain ⟨b, off, spot⟩ := ad
  have hs : spot = none := hs
  subst hs
  refine ⟨b, off, rfl, fun j v hj => ?_, h2⟩
  have hjl : j < n := by
    rw [← h2]
    exact (List.getElem?_eq_some_iff.1 hj).1
  have := h3 j hjl
  rw [Addr.add_mid, Addr.add_mid] at this
  rw [this]; exact hj
section
variable {H : Type} {enc : TypeId × Value → H} {P : Program} {w : World} {base : Nat} {spare : Nat → Bool} {held : Bool}
theorem trod_struct6 {t : TypeId} {f0 f1 f2 f3 f4 f5 : Field} {fuel : Nat} {cs : List Value} {x : DataW H × List MemPlace} (ht : P.underlying t = some (.struct #[f0, f1, f2, f3, f4, f5])) (h : DataW.trod enc P w base spare held fuel t cs = some x) :
    ∃ y0 y1 y2 y3 y4 y5 n, cs.length = P.cellsOf t ∧ DataW.trod enc P w base spare held n f0.type ((cs.drop f0.offset).take (P.cellsOf f0.type)) = some y0 ∧
      DataW.trod enc P w base spare held n f1.type ((cs.drop f1.offset).take (P.cellsOf f1.type)) = some y1 ∧ DataW.trod enc P w base spare held n f2.type ((cs.drop f2.offset).take (P.cellsOf f2.type)) = some y2 ∧
      DataW.trod enc P w base spare held n f3.type ((cs.drop f3.offset).take (P.cellsOf f3.type)) = some y3 ∧ DataW.trod enc P w base spare held n f4.type ((cs.drop f4.offset).take (P.cellsOf f4.type)) = some y4 ∧
      DataW.trod enc P w base spare held n f5.type ((cs.drop f5.offset).take (P.cellsOf f5.type)) = some y5 := by
  obtain ⟨xs, n, _, rfl, hl, hlen, hf⟩ := DataW.trod_struct ht h
  match xs, hlen with
  | [y0, y1, y2, y3, y4, y5], _ => exact ⟨y0, y1, y2, y3, y4, y5, n, hl, by simpa using hf 0 f0 rfl, by simpa using hf 1 f1 rfl, by simpa using hf 2 f2 rfl, by simpa using hf 3 f3 rfl, by simpa using hf 4 f4 rfl, by simpa using hf 5 f5 rfl⟩
end
theorem cellsNeed : Tryz.prog.cellsOf 53 = 3 := by kernel_rfl
theorem cellsFile : Tryz.prog.cellsOf 51 = 3 := by kernel_rfl
theorem cellsPkg : Tryz.prog.cellsOf 26 = 6 := by kernel_rfl
theorem cellsStr : Tryz.prog.cellsOf 9 = 1 := by kernel_rfl
theorem cellsInt : Tryz.prog.cellsOf 3 = 1 := by kernel_rfl
theorem cellsBool : Tryz.prog.cellsOf 4 = 1 := by kernel_rfl
theorem cellsBy : Tryz.prog.cellsOf 34 = 1 := by kernel_rfl
theorem cellsNeeds : Tryz.prog.cellsOf 22 = 1 := by kernel_rfl
theorem cellsStrs : Tryz.prog.cellsOf 23 = 1 := by kernel_rfl
theorem cellsFiles : Tryz.prog.cellsOf 24 = 1 := by kernel_rfl
theorem cellsU8 : Tryz.prog.cellsOf 5 = 1 := by kernel_rfl
theorem cellsFour : Tryz.prog.cellsOf 48 = 4 := by kernel_rfl
section
variable {H : Type} {enc : TypeId × Value → H} {w : World} {base fuel : Nat} {held : Bool} {v : Value} {x : DataW H × List MemPlace}
theorem open_byA (hf : DataW.trod enc Tryz.prog w base (fun _ => true) held fuel 34 [v] = some x) : ∃ zs, By w v zs := by
  rcases open_ints Tryz.underlying34 Tryz.underlying5 (by kernel_rfl) hf with ⟨hcs, _⟩ | ⟨xa, l, c, zs, hcs, _, hl, hm, hz, _, hcell, hwz⟩
  · injection hcs with hcs _
    exact ⟨[], by rw [hcs]; exact By.nil w⟩
  · injection hcs with hcs _
    have hz2 : zs.length = c := by simpa using hz
    exact ⟨zs.take l, by rw [hcs]; exact by_arg w _ _ _ zs hl hm hz2 hcell hwz⟩
theorem open_needs (hf : DataW.trod enc Tryz.prog w base (fun _ => true) held fuel 22 [v] = some x) :
    ∃ (a : Option Addr) (xs : List NeedD) (cap : Nat), v = .slice a xs.length cap ∧ SlcA w a 3 (xs.map fun x => x.cells) ∧ xs.length ≤ maxLen ∧ ∀ n ∈ xs, n.name.size ≤ maxLen ∧ n.ver.size ≤ maxLen := by
  rcases Go.Deep.open_slice Tryz.underlying22 hf with ⟨h1, hx⟩ | ⟨ad, len, cp, m, q, D, Pl, h1, hb, hl, hm, hmm, hxx, hx⟩
  · injection h1 with h1 _
    subst h1
    exact ⟨none, [], 0, rfl, fun i hi => absurd hi (by simp), Nat.zero_le _, fun n hn => by cases hn⟩
  · injection h1 with h1 _
    subst h1
    have hsp0 : 0 < len → ad.spot = none := fun h0 => by
      obtain ⟨cs, hc, _⟩ := hx 0 (by rw [hmm]; split <;> omega)
      rw [cellsNeed] at hc
      exact spot_cellsA hc (by decide)
    have each : ∀ i < len, ∃ y : NeedD, (∃ g off, (some ad) = some ⟨g, off, none⟩ ∧ w.rangeAt g (off + i * 3) y.cells) ∧ y.name.size ≤ maxLen ∧ y.ver.size ≤ maxLen := fun i hi => by
      obtain ⟨cs, hc, ht⟩ := hx i (by rw [hmm]; split <;> omega)
      rw [cellsNeed] at hc
      obtain ⟨b, off, e, hr, hlen⟩ := cells_atA hc (hsp0 (by omega))
      obtain ⟨c0, c1, c2, rfl⟩ : ∃ c0 c1 c2, cs = [c0, c1, c2] := by
        match cs, hlen with
        | [c0, c1, c2], _ => exact ⟨c0, c1, c2, rfl⟩
      obtain ⟨y0, y1, y2, n', _, hcl, t0, t1, t2⟩ := Go.Deep.trod_struct3 Tryz.underlying53 ht
      simp only [cellsStr, cellsInt, List.drop_zero, List.drop_succ_cons, List.take_succ_cons, List.take_zero] at t0 t1 t2
      obtain ⟨s1, e0, _, w0⟩ := DataW.trod_string Tryz.underlying9 t0
      obtain ⟨κ, e1, _, w1⟩ := DataW.trod_int Tryz.underlying3 t1
      obtain ⟨s2, e2, _, w2⟩ := DataW.trod_string Tryz.underlying9 t2
      injection e0 with e0 _; injection e1 with e1 _; injection e2 with e2 _
      subst e0 e1 e2
      exact ⟨⟨s1, κ, s2⟩, ⟨b, off, by rw [e], hr⟩, w0, w2⟩
    obtain ⟨l, hl1, hl2⟩ := choose_listA len each
    refine ⟨some ad, l, cp, by rw [hl1], fun i hi => ?_, by omega, fun n hn => ?_⟩
    · have hi' : i < l.length := by simpa using hi
      rw [List.getElem_map]
      exact (hl2 i hi').1
    · obtain ⟨i, hi, rfl⟩ := List.getElem_of_mem hn
      exact (hl2 i hi).2
theorem open_strs (hf : DataW.trod enc Tryz.prog w base (fun _ => true) held fuel 23 [v] = some x) :
    ∃ (a : Option Addr) (xs : List ByteArray) (cap : Nat), v = .slice a xs.length cap ∧ SlcA w a 1 (xs.map fun x => [Value.string x]) ∧ xs.length ≤ maxLen ∧ ∀ n ∈ xs, n.size ≤ maxLen := by
  rcases Go.Deep.open_slice Tryz.underlying23 hf with ⟨h1, hx⟩ | ⟨ad, len, cp, m, q, D, Pl, h1, hb, hl, hm, hmm, hxx, hx⟩
  · injection h1 with h1 _
    subst h1
    exact ⟨none, [], 0, rfl, fun i hi => absurd hi (by simp), Nat.zero_le _, fun n hn => by cases hn⟩
  · injection h1 with h1 _
    subst h1
    have hsp0 : 0 < len → ad.spot = none := fun h0 => by
      obtain ⟨cs, hc, _⟩ := hx 0 (by rw [hmm]; split <;> omega)
      rw [cellsStr] at hc
      exact spot_cellsA hc (by decide)
    have each : ∀ i < len, ∃ y : ByteArray, (∃ g off, (some ad) = some ⟨g, off, none⟩ ∧ w.rangeAt g (off + i * 1) [Value.string y]) ∧ y.size ≤ maxLen := fun i hi => by
      obtain ⟨cs, hc, ht⟩ := hx i (by rw [hmm]; split <;> omega)
      rw [cellsStr] at hc
      obtain ⟨b, off, e, hr, hlen⟩ := cells_atA hc (hsp0 (by omega))
      obtain ⟨c0, rfl⟩ : ∃ c0, cs = [c0] := by
        match cs, hlen with
        | [c0], _ => exact ⟨c0, rfl⟩
      obtain ⟨s1, e0, _, w0⟩ := DataW.trod_string Tryz.underlying9 ht
      injection e0 with e0 _
      subst e0
      exact ⟨s1, ⟨b, off, by rw [e], hr⟩, w0⟩
    obtain ⟨l, hl1, hl2⟩ := choose_listA len each
    refine ⟨some ad, l, cp, by rw [hl1], fun i hi => ?_, by omega, fun n hn => ?_⟩
    · have hi' : i < l.length := by simpa using hi
      rw [List.getElem_map]
      exact (hl2 i hi').1
    · obtain ⟨i, hi, rfl⟩ := List.getElem_of_mem hn
      exact (hl2 i hi).2
theorem open_files (hf : DataW.trod enc Tryz.prog w base (fun _ => true) held fuel 24 [v] = some x) :
    ∃ (a : Option Addr) (xs : List FileD) (cap : Nat), v = .slice a xs.length cap ∧ SlcA w a 3 (xs.map fun x => x.cells) ∧ xs.length ≤ maxLen ∧ (∀ n ∈ xs, n.path.size ≤ maxLen ∧ n.data.length ≤ maxLen) ∧ (∀ f ∈ xs, By w (.slice f.a f.data.length f.c) f.data) ∧ xs.length ≤ cap := by
  rcases Go.Deep.open_slice Tryz.underlying24 hf with ⟨h1, hx⟩ | ⟨ad, len, cp, m, q, D, Pl, h1, hb, hl, hm, hmm, hxx, hx⟩
  · injection h1 with h1 _
    subst h1
    exact ⟨none, [], 0, rfl, fun i hi => absurd hi (by simp), Nat.zero_le _, fun n hn => (by cases hn), fun n hn => (by cases hn), Nat.le_refl _⟩
  · injection h1 with h1 _
    subst h1
    have hsp0 : 0 < len → ad.spot = none := fun h0 => by
      obtain ⟨cs, hc, _⟩ := hx 0 (by rw [hmm]; split <;> omega)
      rw [cellsFile] at hc
      exact spot_cellsA hc (by decide)
    have each : ∀ i < len, ∃ y : FileD, (∃ g off, (some ad) = some ⟨g, off, none⟩ ∧ w.rangeAt g (off + i * 3) y.cells) ∧ (y.path.size ≤ maxLen ∧ y.data.length ≤ maxLen) ∧ By w (.slice y.a y.data.length y.c) y.data := fun i hi => by
      obtain ⟨cs, hc, ht⟩ := hx i (by rw [hmm]; split <;> omega)
      rw [cellsFile] at hc
      obtain ⟨b, off, e, hr, hlen⟩ := cells_atA hc (hsp0 (by omega))
      obtain ⟨c0, c1, c2, rfl⟩ : ∃ c0 c1 c2, cs = [c0, c1, c2] := by
        match cs, hlen with
        | [c0, c1, c2], _ => exact ⟨c0, c1, c2, rfl⟩
      obtain ⟨y0, y1, y2, n', _, hcl, t0, t1, t2⟩ := Go.Deep.trod_struct3 Tryz.underlying51 ht
      simp only [cellsStr, cellsBool, cellsBy, List.drop_zero, List.drop_succ_cons, List.take_succ_cons, List.take_zero] at t0 t1 t2
      obtain ⟨s1, e0, _, w0⟩ := DataW.trod_string Tryz.underlying9 t0
      obtain ⟨κ, e1, _⟩ := DataW.trod_bool Tryz.underlying4 t1
      obtain ⟨zs, hby⟩ := open_byA t2
      injection e0 with e0 _; injection e1 with e1 _
      subst e0 e1
      obtain ⟨va, vc, hv, hvl, hvm⟩ := hby.2.2
      subst hv
      exact ⟨⟨s1, κ, va, vc, zs⟩, ⟨b, off, by rw [e], hr⟩, ⟨w0, by show zs.length ≤ maxLen; omega⟩, hby⟩
    obtain ⟨l, hl1, hl2⟩ := choose_listA len each
    refine ⟨some ad, l, cp, by rw [hl1], fun i hi => ?_, by omega, fun n hn => ?_, fun n hn => ?_, by omega⟩
    · have hi' : i < l.length := by simpa using hi
      rw [List.getElem_map]
      exact (hl2 i hi').1
    · obtain ⟨i, hi, rfl⟩ := List.getElem_of_mem hn
      exact (hl2 i hi).2.1
    · obtain ⟨i, hi, rfl⟩ := List.getElem_of_mem hn
      exact (hl2 i hi).2.2
end
/-- A package that came in by value. -/
theorem open_pkg {H : Type} {enc : TypeId × Value → H} {W : World} {base b0 : Nat} {held : Bool} {r : Reach} {v : Value} {d : DataW H} {p : List MemPlace} (hv : Value.okWide Tryz.prog W r b0 26 v) (h : DataW.Trod enc Tryz.prog W base (fun _ => true) held 26 v d p) :
    ∃ (D : PkgD) (P : PkL), v = .agg #[.string D.name, .string D.ver, .slice P.an D.needs.length P.cn, .slice P.ac D.confs.length P.cc, .slice P.af D.files.length P.cf, .slice P.au D.units.length P.cu] ∧ PkAt W D P ∧ RoomD D := by
  have hv' : ∃ cs, v = .agg cs ∧ cs.size = Tryz.prog.cellsOf 26 ∧ Row.okWide Tryz.prog W r b0 26 cs := by
    unfold Value.okWide at hv
    rw [Tryz.underlying26] at hv
    exact hv
  obtain ⟨cs, rfl, hs, _⟩ := hv'
  obtain ⟨fuel, hf⟩ := h
  rw [cellsPkg] at hs
  obtain ⟨c0, c1, c2, c3, c4, c5, rfl⟩ : ∃ c0 c1 c2 c3 c4 c5, cs = #[c0, c1, c2, c3, c4, c5] := by
    obtain ⟨l⟩ := cs
    match l, hs with
    | [c0, c1, c2, c3, c4, c5], _ => exact ⟨c0, c1, c2, c3, c4, c5, rfl⟩
  have hf' : DataW.trod enc Tryz.prog W base (fun _ => true) held fuel 26 [c0, c1, c2, c3, c4, c5] = some (d, p) := hf
  obtain ⟨y0, y1, y2, y3, y4, y5, n', hcl, t0, t1, t2, t3, t4, t5⟩ := trod_struct6 Tryz.underlying26 hf'
  simp only [cellsStr, cellsNeeds, cellsStrs, cellsFiles, List.drop_zero, List.drop_succ_cons, List.take_succ_cons, List.take_zero] at t0 t1 t2 t3 t4 t5
  obtain ⟨s1, e0, _, w0⟩ := DataW.trod_string Tryz.underlying9 t0
  obtain ⟨s2, e1, _, w1⟩ := DataW.trod_string Tryz.underlying9 t1
  injection e0 with e0 _; injection e1 with e1 _
  subst e0 e1
  obtain ⟨an, ns, cn, rfl, n1, n2, n3⟩ := open_needs t2
  obtain ⟨ac, ks, cc, rfl, k1, k2, k3⟩ := open_strs t3
  obtain ⟨af, fs, cf, rfl, f1, f2, f3, f4, f5⟩ := open_files t4
  obtain ⟨au, us, cu, rfl, u1, u2, u3⟩ := open_strs t5
  exact ⟨⟨s1, s2, ns, ks, fs, us⟩, ⟨an, cn, ac, cc, af, cf, au, cu⟩, rfl, ⟨n1, k1, f1, u1, f4, f5⟩, ⟨w0, w1, n2, n3, k2, k3, f2, f3, u2, u3⟩⟩
theorem u8_wf {n : Int} (h : (Lit.int .u8 n).wf = true) : 0 ≤ n ∧ n < 256 := by
  have h1 : IntKind.u8.min = 0 := rfl
  have h2 : IntKind.u8.max = 255 := rfl
  simp only [Lit.wf, Bool.and_eq_true, decide_eq_true_eq] at h
  omega
/-- An array of four bytes that came in by value. -/
theorem open_fourA {H : Type} {enc : TypeId × Value → H} {W : World} {base b0 : Nat} {spare : Nat → Bool} {held : Bool} {r : Reach} {v : Value} {d : DataW H} {p : List MemPlace} (hv : Value.okWide Tryz.prog W r b0 48 v) (h : DataW.Trod enc Tryz.prog W base spare held 48 v d p) :
    ∃ a b c e : Int, v = .agg #[.int .u8 a, .int .u8 b, .int .u8 c, .int .u8 e] ∧ (0 ≤ a ∧ a < 256) ∧ (0 ≤ b ∧ b < 256) ∧ (0 ≤ c ∧ c < 256) ∧ (0 ≤ e ∧ e < 256) := by
  have hv' : ∃ cs, v = .agg cs ∧ cs.size = Tryz.prog.cellsOf 48 ∧ Row.okWide Tryz.prog W r b0 48 cs := by
    unfold Value.okWide at hv
    rw [Tryz.underlying48] at hv
    exact hv
  obtain ⟨cs, rfl, hs, _⟩ := hv'
  obtain ⟨fuel, hf⟩ := h
  obtain ⟨xs, m, rfl, _, hl, hx, hi⟩ := DataW.trod_array Tryz.underlying48 hf
  rw [cellsFour] at hs
  obtain ⟨c0, c1, c2, c3, rfl⟩ : ∃ c0 c1 c2 c3, cs = #[c0, c1, c2, c3] := by
    obtain ⟨l⟩ := cs
    match l, hs with
    | [c0, c1, c2, c3], _ => exact ⟨c0, c1, c2, c3, rfl⟩
  have one : ∀ i c, i < 4 → ([c0, c1, c2, c3].drop (i * 1)).take 1 = [c] → ∃ n : Int, c = .int .u8 n ∧ (0 ≤ n ∧ n < 256) := by
    intro i c hi4 he
    have h := hi i hi4
    rw [cellsU8] at h
    have he' : List.take 1 (List.drop (i * 1) (Value.agg #[c0, c1, c2, c3]).cells.toList) = [c] := he
    rw [he'] at h
    have hxi : ∃ x, xs[i]? = some x := ⟨xs[i], List.getElem?_eq_getElem (by omega)⟩
    obtain ⟨x, hx'⟩ := hxi
    rw [hx'] at h
    obtain ⟨n, hc, _, hw⟩ := DataW.trod_int Tryz.underlying5 h
    simp at hc
    exact ⟨n, hc, u8_wf hw⟩
  obtain ⟨a, rfl, ha⟩ := one 0 c0 (by decide) rfl
  obtain ⟨b, rfl, hb⟩ := one 1 c1 (by decide) rfl
  obtain ⟨c, rfl, hc⟩ := one 2 c2 (by decide) rfl
  obtain ⟨e, rfl, he⟩ := one 3 c3 (by decide) rfl
  exact ⟨a, b, c, e, rfl, ha, hb, hc, he⟩
end Go.Proofs.YtihnjhigemhknaaGreatDoor
