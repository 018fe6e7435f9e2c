/- Texts one behind the other, each in a section of its own: what calls make of memory, step by step. -/
import Derived.Test.YtkhnkidggcjfeaaGreatDoorPackNeedHits18
import Derived.Test.YtkhnkidggcjfeaaGreatDoorRows
import Derived.Deep.Slices
import Derived.Deep.Strs
import Derived.Lib.SmallJoins
import Derived.WideShapes
import Derived.ProofKit
import Derived.OpenShut
import Derived.MakeChecks
import Derived.Laws.IdiomRangeMap
set_option linter.unusedVariables false
set_option linter.unusedSimpArgs false
set_option maxRecDepth 100000
section
namespace Go.Proofs.YtkhnkidggcjfeaaGreatDoor
open Go.RowKit
open Go.ChangeMaps (setBlock)
def filesN (n : Nm) : List Nm := (findU usN n).fi
def pths : List Nm := [[47, 97], [47, 98], [47, 99], [47, 100], [47, 101]]
theorem files_pths {n : Nm} (hn : n ∈ all4) : ∀ p ∈ filesN n, p ∈ pths := by
  simp only [all4, List.mem_cons, List.not_mem_nil, or_false] at hn
  rcases hn with rfl | rfl | rfl | rfl <;> decide
theorem files_few {n : Nm} (hn : n ∈ all4) : (filesN n).length ≤ 3 := by
  simp only [all4, List.mem_cons, List.not_mem_nil, or_false] at hn
  rcases hn with rfl | rfl | rfl | rfl <;> decide
theorem one_pth {p : Nm} (hp : p ∈ pths) : One p p.tail ∧ okP p = true ∧ namesL p = [p.tail] ∧ toB p.tail ≠ toB nNew ∧ toB p.tail ≠ toB nAway ∧ p.length ≤ 2 := by
  simp only [pths, List.mem_cons, List.not_mem_nil, or_false] at hp
  rcases hp with rfl | rfl | rfl | rfl | rfl <;> exact ⟨⟨by decide, by decide⟩, by decide, by decide, fun e => absurd (toB_inj e) (by decide), fun e => absurd (toB_inj e) (by decide), by decide⟩
theorem find_pth {E : Et} {B : Nat} (h : Inv E B) {p : Nm} (hp : p ∈ pths) : findX E p = look (kidsE E) (toB p.tail) := by
  obtain ⟨_, h2, h3, _⟩ := one_pth hp
  obtain ⟨nd, h4, _⟩ := h.root
  unfold findX
  rw [if_pos h2, h3, kids_of h4]
  unfold walkE
  rw [h4]
  simp only
  cases look nd.kids (toB p.tail) with
  | none => rfl
  | some j => rfl
theorem stale_iff {E : Et} {B : Nat} (h : Inv E B) {p : Nm} (hp : p ∈ pths) (i : Int) : staleE E p i = true ↔ look (kidsE E) (toB p.tail) ≠ some i := by
  unfold staleE
  rw [find_pth h hp]
  cases look (kidsE E) (toB p.tail) with
  | none => simp
  | some j => simp
def Run4 (V : MV) (now : Nm → Int) (k : Nat) (n : Nm) (vs : List (Nm × Int)) : Prop :=
  ∃ pid ids u, look V.mr n = some ⟨1, pid, 0, filesN n⟩ ∧ 1 ≤ pid ∧ look V.runs pid = some (u, ids, false) ∧ ids.length = vs.length ∧ vs.map (·.1) = filesN n ∧
    ∀ q ∈ ids.zip vs, q.1 < V.E.next ∧ (-(k : Int) ≤ q.2.2 ∧ q.2.2 ≤ k) ∧ (look (kidsE V.E) (toB q.2.1.tail) = some q.1 ↔ now q.2.1 = q.2.2)
structure Rel4 (V : MV) (S : Nm → Option (List (Nm × Int))) (now : Nm → Int) (k : Nat) : Prop where
  fs : Fs V.E
  off : ∀ n, n ∉ all4 → look V.mr n = none
  idle : ∀ n ∈ all4, S n = none → look V.mr n = none ∨ look V.mr n = some ⟨4, 0, 0, []⟩
  on : ∀ n ∈ all4, ∀ vs, S n = some vs → Run4 V now k n vs
  apart : ∀ n ∈ all4, ∀ m ∈ all4, n ≠ m → ∀ r r', look V.mr n = some r → look V.mr m = some r' → 1 ≤ r.pid → r.pid ≠ r'.pid
  now_ : ∀ p, -(k : Int) ≤ now p ∧ now p ≤ k
def oldN (S : Nm → Option (List (Nm × Int))) (now : Nm → Int) (n : Nm) : Bool := match S n with
  | none => false
  | some vs => vs.any fun q => now q.1 != q.2
theorem of_old {V : MV} {S : Nm → Option (List (Nm × Int))} {now : Nm → Int} {k B : Nat} (hI : Inv V.E B) (h0 : look V.runs 0 = none) (h : Rel4 V S now k) {n : Nm} (hn : n ∈ all4) : ofN V n = oldN S now n := by
  unfold ofN oldN
  cases hs : S n with
  | none =>
    have hf : (ofV V n).files = [] := by
      unfold ofV
      rcases h.idle n hn hs with e | e <;> rw [e] <;> rfl
    rw [hf, List.zip_nil_right]
    rfl
  | some vs =>
    obtain ⟨pid, ids, u, e1, e2, e3, e4, e5, e6⟩ := h.on n hn vs hs
    have hv : ofV V n = ⟨1, pid, 0, filesN n⟩ := by unfold ofV; rw [e1]; rfl
    have hm : mapsV V pid = ids := by unfold mapsV; rw [e3]; rfl
    have hz : vs = (ids.zip vs).map (·.2) := (List.map_snd_zip (by omega)).symm
    rw [hv]
    show ((mapsV V pid).zip (filesN n)).any _ = vs.any _
    rw [hm, ← e5, List.zip_map_right, List.any_map]
    conv => rhs; rw [hz, List.any_map]
    rw [Bool.eq_iff_iff, List.any_eq_true, List.any_eq_true]
    have key : ∀ q ∈ ids.zip vs, (staleE V.E q.2.1 q.1 = true ↔ (now q.2.1 != q.2.2) = true) := fun q hq => by
      have hp : q.2.1 ∈ pths := files_pths hn _ (by
        rw [← e5]
        exact List.mem_map.2 ⟨q.2, (List.of_mem_zip hq).2, rfl⟩)
      rw [stale_iff hI hp, bne_iff_ne]
      exact not_congr (e6 q hq).2.2
    constructor
    · rintro ⟨q, hq, hh⟩
      exact ⟨q, hq, (key q hq).1 hh⟩
    · rintro ⟨q, hq, hh⟩
      exact ⟨q, hq, (key q hq).2 hh⟩
theorem in_old {V : MV} {S : Nm → Option (List (Nm × Int))} {now : Nm → Int} {k B : Nat} (hI : Inv V.E B) (h0 : look V.runs 0 = none) (hnd : (V.mr.map (·.1)).Nodup) (h : Rel4 V S now k) : hitV V = all4.filter (oldN S now) := by
  unfold hitV
  have ho : InOrder ((sortN (inV V [1, 2, 3])).filter (ofN V)) := (sortN_order _).sublist List.filter_sublist
  have ho2 : InOrder (all4.filter (oldN S now)) := (show InOrder all4 by unfold InOrder; decide).sublist List.filter_sublist
  have hd1 : ((sortN (inV V [1, 2, 3])).filter (ofN V)).Nodup := by
    refine List.Nodup.sublist List.filter_sublist ((sortN_perm _).nodup_iff.2 ?_)
    unfold inV
    exact hnd.sublist (List.filter_sublist.map _)
  have hd2 : (all4.filter (oldN S now)).Nodup := (show all4.Nodup by decide).sublist List.filter_sublist
  refine order_uniq ((List.perm_ext_iff_of_nodup hd1 hd2).2 fun x => ?_) ho ho2
  rw [List.mem_filter, List.mem_filter, mem_sortN]
  constructor
  · rintro ⟨h1, h2⟩
    have hx : x ∈ all4 := by
      apply Classical.byContradiction
      intro hx
      unfold inV at h1
      obtain ⟨p, hp, rfl⟩ := List.mem_map.1 h1
      have := look_of_mem hnd (List.mem_filter.1 hp).1
      rw [h.off _ hx] at this
      cases this
    exact ⟨hx, by rw [← of_old hI h0 h hx]; exact h2⟩
  · rintro ⟨hx, h2⟩
    refine ⟨?_, by rw [of_old hI h0 h hx]; exact h2⟩
    unfold oldN at h2
    cases hs : S x with
    | none => rw [hs] at h2; cases h2
    | some vs =>
      obtain ⟨pid, ids, u, e1, _⟩ := h.on x hx vs hs
      unfold inV
      exact List.mem_map.2 ⟨(x, ⟨1, pid, 0, filesN x⟩), List.mem_filter.2 ⟨look_mem e1, rfl⟩, rfl⟩
theorem nd_old {V : MV} {S : Nm → Option (List (Nm × Int))} {now : Nm → Int} {k : Nat} (h0 : look V.runs 0 = none) (hnd : (V.mr.map (·.1)).Nodup) (h : Rel4 V S now k) : NdOk V := by
  refine ndok_of h0 fun p hp => ?_
  have hl := look_of_mem hnd hp
  have hx : p.1 ∈ all4 := by
    apply Classical.byContradiction
    intro hx
    rw [h.off _ hx] at hl
    cases hl
  cases hs : S p.1 with
  | none =>
    rcases h.idle _ hx hs with e | e
    · rw [e] at hl; cases hl
    · rw [e] at hl
      injection hl with hl
      rw [← hl]
      exact ⟨by unfold mapsV; rw [h0]; rfl, Nat.zero_le _, fun f hf => nomatch hf⟩
  | some vs =>
    obtain ⟨pid, ids, u, e1, e2, e3, e4, e5, e6⟩ := h.on _ hx vs hs
    rw [e1] at hl
    injection hl with hl
    rw [← hl]
    have h3 := files_few hx
    refine ⟨?_, by show (filesN p.1).length ≤ 1000; omega, fun f hf => ?_⟩
    · show (mapsV V pid).length = (filesN p.1).length
      unfold mapsV
      rw [e3, ← e5, List.length_map]
      exact e4
    · have := (one_pth (files_pths hx f hf)).2.2.2.2.2
      omega
theorem Rel4.turn {V V' : MV} {S : Nm → Option (List (Nm × Int))} {now now' : Nm → Int} {k k' : Nat} (h : Rel4 V S now k) (hk : k ≤ k') (hF : Fs V'.E) (hnx : V.E.next ≤ V'.E.next) (hmr : V'.mr = V.mr) (hr : V'.runs = V.runs) (hnow : ∀ p, -(k' : Int) ≤ now' p ∧ now' p ≤ k')
    (hp : ∀ p ∈ pths, (look (kidsE V'.E) (toB p.tail) = look (kidsE V.E) (toB p.tail) ∧ now' p = now p) ∨ ((∀ i, i < V.E.next → look (kidsE V'.E) (toB p.tail) ≠ some i) ∧ ((k : Int) < now' p ∨ now' p < -(k : Int)))) : Rel4 V' S now' k' := by
  refine ⟨hF, fun n hn => by rw [hmr]; exact h.off n hn, fun n hn hs => by rw [hmr]; exact h.idle n hn hs, fun n hn vs hs => ?_, fun n hn m hm hne r r' h1 h2 h3 => h.apart n hn m hm hne r r' (by rw [← hmr]; exact h1) (by rw [← hmr]; exact h2) h3, hnow⟩
  obtain ⟨pid, ids, u, e1, e2, e3, e4, e5, e6⟩ := h.on n hn vs hs
  refine ⟨pid, ids, u, by rw [hmr]; exact e1, e2, by rw [hr]; exact e3, e4, e5, fun q hq => ?_⟩
  obtain ⟨g1, g2, g3⟩ := e6 q hq
  have hpp : q.2.1 ∈ pths := files_pths hn _ (by
    rw [← e5]
    exact List.mem_map.2 ⟨q.2, (List.of_mem_zip hq).2, rfl⟩)
  refine ⟨by omega, by omega, ?_⟩
  rcases hp q.2.1 hpp with ⟨a1, a2⟩ | ⟨a1, a2⟩
  · rw [a1, a2]; exact g3
  · constructor
    · intro hh; exact absurd hh (a1 _ g1)
    · intro hh; omega
end Go.Proofs.YtkhnkidggcjfeaaGreatDoor
end
section
namespace Go.Proofs.YtkhnkidggcjfeaaGreatDoor
open Go.RowKit
open Go.ChangeMaps (setBlock)
theorem hold_all {B : Nat} (ls : List (List UInt8)) : ∀ (X : VX) (acc : List Int), Inv X.E B → FlE X.E → (∀ l ∈ ls, l ∈ pths) →
    (FlE (holdFrom (X, acc) ls).2.2.E ∧ kidsE (holdFrom (X, acc) ls).2.2.E = kidsE X.E ∧ (holdFrom (X, acc) ls).2.2.E.next = X.E.next) ∧
    ((holdFrom (X, acc) ls).1 = 0 → ∃ ids, (holdFrom (X, acc) ls).2.1 = acc ++ ids ∧ ids.length = ls.length ∧ ∀ q ∈ ids.zip ls, look (kidsE X.E) (toB q.2.tail) = some q.1) := by
  induction ls with
  | nil => intro X acc h hf _; exact ⟨⟨hf, rfl, rfl⟩, fun _ => ⟨[], (List.append_nil _).symm, rfl, fun q hq => nomatch hq⟩⟩
  | cons l r ih =>
    intro X acc h hf hp
    have hl := hp l (List.mem_cons_self ..)
    have hfd := find_pth h hl
    unfold holdFrom
    by_cases hc : codeX X l = 0
    · simp only [hc, if_true]
      have e : (holdX X l).E = X.E := by unfold holdX; rw [if_pos hc]
      obtain ⟨⟨a1, a2, a3⟩, a4⟩ := ih (holdX X l) (acc ++ [numX X l]) (by rw [e]; exact h) (by rw [e]; exact hf) fun x hx => hp x (List.mem_cons_of_mem _ hx)
      rw [e] at a2 a3 a4
      refine ⟨⟨a1, a2, a3⟩, fun h0 => ?_⟩
      obtain ⟨ids, b1, b2, b3⟩ := a4 h0
      refine ⟨numX X l :: ids, by rw [b1, List.append_assoc]; rfl, by simp [b2], fun q hq => ?_⟩
      rw [List.zip_cons_cons] at hq
      rcases List.mem_cons.1 hq with rfl | hq
      · show look (kidsE X.E) (toB l.tail) = some (numX X l)
        unfold numX
        rw [if_pos hc, hfd]
        unfold codeX at hc
        rw [hfd] at hc
        cases hk : look (kidsE X.E) (toB l.tail) with
        | none => rw [hk] at hc; simp at hc
        | some i => rfl
      · exact b3 q hq
    · simp only [hc, if_false]
      obtain ⟨b1, b2, b3, _⟩ := let_all acc h hf
      exact ⟨⟨b1, b2, b3⟩, fun h0 => by first | exact absurd h0 hc | exact h0.elim⟩
theorem spawn_one {V : MV} {B : Nat} (h : Inv V.E B) (hf : FlE V.E) (u : ByteArray) {fs : List Nm} (hp : ∀ l ∈ fs, l ∈ pths) :
    (FlE (spawnV V u fs).E ∧ kidsE (spawnV V u fs).E = kidsE V.E ∧ (spawnV V u fs).E.next = V.E.next ∧ (spawnV V u fs).mr = V.mr) ∧
    (spawnC V fs ≠ 0 → (spawnV V u fs).runs = V.runs) ∧
    (spawnC V fs = 0 → ∃ ids, (spawnV V u fs).runs = put V.runs (V.last + 1) (u, ids, false) ∧ ids.length = fs.length ∧ ∀ q ∈ ids.zip fs, look (kidsE V.E) (toB q.2.tail) = some q.1) := by
  obtain ⟨⟨a1, a2, a3⟩, a4⟩ := hold_all fs V.x [] h hf hp
  unfold spawnV spawnC
  by_cases h8 : 8 < fs.length
  · simp only [h8, if_true]
    exact ⟨⟨hf, trivial, trivial, trivial⟩, fun _ => trivial, fun h => absurd h (by decide)⟩
  · simp only [h8, if_false]
    by_cases h32 : 32 ≤ V.runs.length
    · simp only [h32, if_true]
      exact ⟨⟨hf, trivial, trivial, trivial⟩, fun _ => trivial, fun h => absurd h (by decide)⟩
    · simp only [h32, if_false]
      by_cases h0 : (holdFrom (V.x, []) fs).1 = 0
      · simp only [h0, if_true]
        refine ⟨⟨a1, a2, a3, trivial⟩, fun h => absurd rfl h, fun _ => ?_⟩
        obtain ⟨ids, b1, b2, b3⟩ := a4 h0
        exact ⟨ids, by rw [b1]; rfl, b2, b3⟩
      · simp only [h0, if_false]
        exact ⟨⟨a1, a2, a3, trivial⟩, fun _ => trivial, fun h => absurd h id⟩
theorem fs_kids {E E' : Et} (h : Fs E) (hf : FlE E') (hk : kidsE E' = kidsE E) : Fs E' := h.same hf fun x => by rw [hk]
theorem Run4.like {V V' : MV} {now : Nm → Int} {k : Nat} {n : Nm} {vs : List (Nm × Int)} (h : Run4 V now k n vs) (hk : kidsE V'.E = kidsE V.E) (hnx : V'.E.next = V.E.next) (hm : look V'.mr n = look V.mr n) (hr : ∀ pid r, look V.mr n = some r → r.pid = pid → 1 ≤ pid → ∀ x, look V.runs pid = some x → look V'.runs pid = some x) : Run4 V' now k n vs := by
  obtain ⟨pid, ids, u, e1, e2, e3, e4, e5, e6⟩ := h
  exact ⟨pid, ids, u, by rw [hm]; exact e1, e2, hr pid _ e1 rfl e2 _ e3, e4, e5, fun q hq => by rw [hk, hnx]; exact e6 q hq⟩
theorem Rel4.pid {V : MV} {S : Nm → Option (List (Nm × Int))} {now : Nm → Int} {k N : Nat} (h : Rel4 V S now k) (hG : Gd N V) {n : Nm} (hn : n ∈ all4) {r : RV} (hr : look V.mr n = some r) : r.pid ≤ V.last := by
  cases hs : S n with
  | none =>
    rcases h.idle n hn hs with e | e
    · rw [e] at hr; cases hr
    · rw [e] at hr
      injection hr with hr
      rw [← hr]; exact hG.last.1
  | some vs =>
    obtain ⟨pid, ids, u, e1, e2, e3, _⟩ := h.on n hn vs hs
    rw [e1] at hr
    injection hr with hr
    rw [← hr]
    exact (hG.each _ (look_mem e3)).1.2
theorem unit_facts {n : Nm} (hn : n ∈ all4) : n ∈ namesU usN ∧ (findU usN n).re = [] ∧ (findU usN n).ret = 0 := by
  simp only [all4, List.mem_cons, List.not_mem_nil, or_false] at hn
  rcases hn with rfl | rfl | rfl | rfl <;> decide
theorem Rel4.start {V : MV} {S : Nm → Option (List (Nm × Int))} {now : Nm → Int} {k N B : Nat} (h : Rel4 V S now k) (hG : Gd N V) (hI : Inv V.E B) {n : Nm} (hn : n ∈ all4) :
    ((startV usN V n).1 ≠ 0 → Rel4 (startV usN V n).2 S now k) ∧ ((startV usN V n).1 = 0 → Rel4 (startV usN V n).2 (fun m => if m = n then some ((filesN n).map fun p => (p, now p)) else S m) now k) := by
  obtain ⟨u1, u2, u3⟩ := unit_facts hn
  unfold startV
  rw [if_neg (fun e => e u1)]
  by_cases hst : (ofV V n).state ≠ 0 ∧ (ofV V n).state ≠ 4
  · rw [if_pos hst]
    exact ⟨fun _ => h, fun h0 => absurd h0 (by show ¬ ((20 : Int) = 0); decide)⟩
  · rw [if_neg hst, if_neg (by rw [u2]; show ¬ (([] : List Nm).all _ = false); simp)]
    have hS : S n = none := by
      cases hs : S n with
      | none => rfl
      | some vs =>
        obtain ⟨pid, ids, u, e1, _⟩ := h.on n hn vs hs
        exfalso
        apply hst
        unfold ofV
        rw [e1]
        exact ⟨by show (1 : Int) ≠ 0; decide, by show (1 : Int) ≠ 4; decide⟩
    obtain ⟨⟨s1, s2, s3, s4⟩, s5, s6⟩ := spawn_one (V := V) hI h.fs.fl (toB n) (fs := filesN n) (files_pths hn)
    by_cases hc : spawnC V (filesN n) = 0
    · rw [show issueV V n (findU usN n).fi 0 = (0, turnV (spawnV V (toB n) (filesN n)) n ⟨1, V.last + 1, 0, filesN n⟩ 0) from by
        show issueV V n (filesN n) 0 = _
        unfold issueV
        rw [if_pos hc]]
      refine ⟨fun h0 => absurd rfl h0, fun _ => ?_⟩
      show Rel4 (turnV (spawnV V (toB n) (filesN n)) n ⟨1, V.last + 1, 0, filesN n⟩ 0) _ _ _
      obtain ⟨ids, i1, i2, i3⟩ := s6 hc
      have hmr : (turnV (spawnV V (toB n) (filesN n)) n ⟨1, V.last + 1, 0, filesN n⟩ 0).mr = put V.mr n ⟨1, V.last + 1, 0, filesN n⟩ := by
        show (if (1 : Int) = 0 then del (spawnV V (toB n) (filesN n)).mr n else put (spawnV V (toB n) (filesN n)).mr n _) = _
        rw [if_neg (by decide), s4]
      have hru : (turnV (spawnV V (toB n) (filesN n)) n ⟨1, V.last + 1, 0, filesN n⟩ 0).runs = put V.runs (V.last + 1) (toB n, ids, false) := i1
      have hE : (turnV (spawnV V (toB n) (filesN n)) n ⟨1, V.last + 1, 0, filesN n⟩ 0).E = (spawnV V (toB n) (filesN n)).E := rfl
      generalize turnV (spawnV V (toB n) (filesN n)) n ⟨1, V.last + 1, 0, filesN n⟩ 0 = V' at *
      refine ⟨by rw [hE]; exact fs_kids h.fs s1 s2, fun m hm => ?_, fun m hm hs => ?_, fun m hm vs hs => ?_, fun a ha b hb hne r r' h1 h2 h3 => ?_, h.now_⟩
      · rw [hmr, look_put, if_neg (fun e : m = n => hm (by rw [e]; exact hn))]; exact h.off m hm
      · by_cases e : m = n
        · rw [if_pos e] at hs; cases hs
        · rw [if_neg e] at hs
          rw [hmr, look_put, if_neg e]
          exact h.idle m hm hs
      · by_cases e : m = n
        · rw [if_pos e] at hs
          injection hs with hs
          subst hs e
          refine ⟨V.last + 1, ids, toB m, by rw [hmr, look_put, if_pos rfl], by have := hG.last.1; omega, by rw [hru, look_put, if_pos rfl], by rw [List.length_map]; exact i2, by rw [List.map_map]; exact List.map_id _, fun q hq => ?_⟩
          rw [List.zip_map_right] at hq
          obtain ⟨p, hp, rfl⟩ := List.mem_map.1 hq
          have hk := i3 p hp
          have hlt := (kid_ne hI hk h.fs.fl).2.1
          rw [hE, s2, s3]
          exact ⟨hlt, h.now_ _, fun _ => rfl, fun _ => hk⟩
        · rw [if_neg e] at hs
          refine (h.on m hm vs hs).like (by rw [hE]; exact s2) (by rw [hE]; exact s3) (by rw [hmr, look_put, if_neg e]) fun pid r hr hp h1 x hx => ?_
          rw [hru, look_put, if_neg (fun e2 => by
            have := (hG.each _ (look_mem hx)).1.2
            simp only at this
            omega)]
          exact hx
      · rw [hmr, look_put] at h1 h2
        by_cases ea : a = n
        · rw [if_pos ea] at h1
          injection h1 with h1
          rw [if_neg (fun e => hne (ea.trans e.symm))] at h2
          have := h.pid hG hb h2
          rw [← h1]
          show V.last + 1 ≠ r'.pid
          omega
        · rw [if_neg ea] at h1
          by_cases eb : b = n
          · rw [if_pos eb] at h2
            injection h2 with h2
            have := h.pid hG ha h1
            rw [← h2]
            show r.pid ≠ V.last + 1
            omega
          · rw [if_neg eb] at h2
            exact h.apart a ha b hb hne r r' h1 h2 h3
    · rw [show issueV V n (findU usN n).fi 0 = (spawnC V (filesN n), turnV (spawnV V (toB n) (filesN n)) n ⟨4, 0, 0, []⟩ 4) from by
        show issueV V n (filesN n) 0 = _
        unfold issueV
        rw [if_neg hc]]
      refine ⟨fun _ => ?_, fun h0 => absurd h0 hc⟩
      show Rel4 (turnV (spawnV V (toB n) (filesN n)) n ⟨4, 0, 0, []⟩ 4) _ _ _
      have i1 := s5 hc
      have hmr : (turnV (spawnV V (toB n) (filesN n)) n ⟨4, 0, 0, []⟩ 4).mr = put V.mr n ⟨4, 0, 0, []⟩ := by
        show (if (4 : Int) = 0 then del (spawnV V (toB n) (filesN n)).mr n else put (spawnV V (toB n) (filesN n)).mr n _) = _
        rw [if_neg (by decide), s4]
      have hru : (turnV (spawnV V (toB n) (filesN n)) n ⟨4, 0, 0, []⟩ 4).runs = V.runs := i1
      have hE : (turnV (spawnV V (toB n) (filesN n)) n ⟨4, 0, 0, []⟩ 4).E = (spawnV V (toB n) (filesN n)).E := rfl
      generalize turnV (spawnV V (toB n) (filesN n)) n ⟨4, 0, 0, []⟩ 4 = V' at *
      refine ⟨by rw [hE]; exact fs_kids h.fs s1 s2, fun m hm => ?_, fun m hm hs => ?_, fun m hm vs hs => ?_, fun a ha b hb hne r r' h1 h2 h3 => ?_, h.now_⟩
      · rw [hmr, look_put, if_neg (fun e : m = n => hm (by rw [e]; exact hn))]; exact h.off m hm
      · rw [hmr, look_put]
        by_cases e : m = n
        · rw [if_pos e]; exact .inr rfl
        · rw [if_neg e]; exact h.idle m hm hs
      · have e : m ≠ n := fun e => by rw [e, hS] at hs; cases hs
        exact (h.on m hm vs hs).like (by rw [hE]; exact s2) (by rw [hE]; exact s3) (by rw [hmr, look_put, if_neg e]) fun pid r hr hp h1 x hx => by rw [hru]; exact hx
      · rw [hmr, look_put] at h1 h2
        by_cases ea : a = n
        · rw [if_pos ea] at h1
          injection h1 with h1
          rw [← h1] at h3
          exact absurd h3 (by decide)
        · rw [if_neg ea] at h1
          by_cases eb : b = n
          · rw [if_pos eb] at h2
            injection h2 with h2
            rw [← h2]
            show r.pid ≠ 0
            omega
          · rw [if_neg eb] at h2
            exact h.apart a ha b hb hne r r' h1 h2 h3
theorem Rel4.fail {V : MV} {S : Nm → Option (List (Nm × Int))} {now : Nm → Int} {k N B : Nat} (h : Rel4 V S now k) (hG : Gd N V) (hI : Inv V.E B) {n : Nm} (hn : n ∈ all4) :
    ((failV usN V n).1 ≠ 0 → Rel4 (failV usN V n).2 S now k) ∧ ((failV usN V n).1 = 0 → Rel4 (failV usN V n).2 (fun m => if m = n then none else S m) now k) := by
  obtain ⟨u1, u2, u3⟩ := unit_facts hn
  unfold failV
  by_cases hp0 : (ofV V n).pid = 0
  · rw [if_pos hp0]
    exact ⟨fun _ => h, fun h0 => absurd h0 (by show ¬ ((20 : Int) = 0); decide)⟩
  · rw [if_neg hp0]
    cases hs : S n with
    | none =>
      exfalso
      apply hp0
      unfold ofV
      rcases h.idle n hn hs with e | e <;> rw [e] <;> rfl
    | some vs =>
      obtain ⟨pid, ids, u, e1, e2, e3, e4, e5, e6⟩ := h.on n hn vs hs
      have hv : ofV V n = ⟨1, pid, 0, filesN n⟩ := by unfold ofV; rw [e1]; rfl
      rw [hv]
      simp only
      rw [if_neg (by decide), if_neg (by rw [u3]; simp)]
      refine ⟨fun h0 => absurd rfl h0, fun _ => ?_⟩
      show Rel4 (turnV (exitV V pid) n ⟨4, 0, 0, []⟩ 4) _ _ _
      have hx : exitV V pid = { V with E := (letAll V.x ids).E, held := (letAll V.x ids).held, runs := del V.runs pid } := by
        unfold exitV
        rw [e3]
      obtain ⟨b1, b2, b3, _⟩ := let_all (X := V.x) ids hI h.fs.fl
      have hmr : (turnV (exitV V pid) n ⟨4, 0, 0, []⟩ 4).mr = put V.mr n ⟨4, 0, 0, []⟩ := by
        show (if (4 : Int) = 0 then del (exitV V pid).mr n else put (exitV V pid).mr n _) = _
        rw [if_neg (by decide), hx]
      have hru : (turnV (exitV V pid) n ⟨4, 0, 0, []⟩ 4).runs = del V.runs pid := by
        show (exitV V pid).runs = _
        rw [hx]
      have hE : (turnV (exitV V pid) n ⟨4, 0, 0, []⟩ 4).E = (letAll V.x ids).E := by
        show (exitV V pid).E = _
        rw [hx]
      generalize turnV (exitV V pid) n ⟨4, 0, 0, []⟩ 4 = V' at *
      refine ⟨by rw [hE]; exact fs_kids h.fs b1 b2, fun m hm => ?_, fun m hm hs2 => ?_, fun m hm vs2 hs2 => ?_, fun a ha b hb hne r r' h1 h2 h3 => ?_, h.now_⟩
      · rw [hmr, look_put, if_neg (fun e : m = n => hm (by rw [e]; exact hn))]; exact h.off m hm
      · rw [hmr, look_put]
        by_cases e : m = n
        · rw [if_pos e]; exact .inr rfl
        ·
          rw [if_neg e] at hs2 ⊢
          exact h.idle m hm hs2
      · have e : m ≠ n := fun e => by rw [if_pos e] at hs2; cases hs2
        rw [if_neg e] at hs2
        refine (h.on m hm vs2 hs2).like (by rw [hE]; exact b2) (by rw [hE]; exact b3) (by rw [hmr, look_put, if_neg e]) fun p r hr hp h1 x hx2 => ?_
        rw [hru, look_del_ne (fun e3 => h.apart m hm n hn e r _ hr e1 (by omega) (by rw [hp]; exact e3))]
        exact hx2
      · rw [hmr, look_put] at h1 h2
        by_cases ea : a = n
        · rw [if_pos ea] at h1
          injection h1 with h1
          rw [← h1] at h3
          exact absurd h3 (by decide)
        · rw [if_neg ea] at h1
          by_cases eb : b = n
          · rw [if_pos eb] at h2
            injection h2 with h2
            rw [← h2]
            show r.pid ≠ 0
            omega
          · rw [if_neg eb] at h2
            exact h.apart a ha b hb hne r r' h1 h2 h3
end Go.Proofs.YtkhnkidggcjfeaaGreatDoor
end
section
namespace Go.Proofs.YtkhnkidggcjfeaaGreatDoor
open Go.RowKit
open Go.ChangeMaps (setBlock)
theorem und_ints : Tryz.prog.underlying 29 = some (.map 9 3) := by kernel_rfl
theorem und_maps : Tryz.prog.underlying 28 = some (.map 9 29) := by kernel_rfl
abbrev intsV (vs : List (Nm × Int)) : List (Nm × Value) := vs.map fun q => (q.1, Value.int .i64 q.2)
abbrev mapsP (es : List (Nm × Nat)) : List (Nm × Value) := es.map fun q => (q.1, Value.map (some q.2))
structure Mem (bl : Blocks) (sb nb : Nat) (es : List (Nm × Nat)) (inn : Nm → List (Nm × Int)) (ns : List (Nm × Int)) : Prop where
  since : ∃ o, (sb, o) ∈ bl ∧ MapO keyN o (mapsP es)
  now : ∃ o, (nb, o) ∈ bl ∧ MapO keyN o (intsV ns)
  inner : ∀ p ∈ es, (∃ o, (p.2, o) ∈ bl ∧ MapO keyN o (intsV (inn p.1))) ∧ p.2 ≠ sb ∧ p.2 ≠ nb
  ne : sb ≠ nb
  keys : (es.map (·.1)).Nodup
  apart : ∀ p ∈ es, ∀ q ∈ es, p.2 = q.2 → p.1 = q.1
abbrev MgL (w0 : World) (v mb tb g : Nat) (bl : Blocks) (N : Nat) (V : MV) (w : World) : Prop := MgAt w0 v mb tb g usN ⟨ordU usN, [], bl⟩ N V w
section
variable {w0 w w1 : World} {v mb tb g N sb nb : Nat} {V : MV} {bl S : Blocks} {L : List Rw} {es : List (Nm × Nat)} {inn : Nm → List (Nm × Int)} {ns : List (Nm × Int)}
theorem Mem.mono {bl' : Blocks} (h : Mem bl sb nb es inn ns) (hb : ∀ m ∈ bl, m ∈ bl') : Mem bl' sb nb es inn ns := by
  obtain ⟨o, h1, h2⟩ := h.since
  obtain ⟨o2, h3, h4⟩ := h.now
  exact ⟨⟨o, hb _ h1, h2⟩, ⟨o2, hb _ h3, h4⟩, fun p hp => by
    obtain ⟨⟨o3, h5, h6⟩, h7, h8⟩ := h.inner p hp
    exact ⟨⟨o3, hb _ h5, h6⟩, h7, h8⟩, h.ne, h.keys, h.apart⟩
theorem MgL.push (h : MgL w0 v mb tb g bl N V w) (k : Own ⟨w, S⟩ w1 []) : MgL w0 v mb tb g (S ++ bl) N V w1 := MgAt.push h k
theorem since_look (h : MgL w0 v mb tb g bl N V w) (m : Mem bl sb nb es inn ns) (n : Nm) : (Instr.lookup 28 (.map (some sb)) (.string (toB n)) false).run Tryz.prog w = .ok ((look es n).elim (.map none) fun b => .map (some b)) w := by
  obtain ⟨o, h1, h2⟩ := m.since
  have hl := MapO.lookup (P := Tryz.prog) (kindsN und_str) und_maps (z := .map none) (by kernel_rfl) h2 (h.block h1) n false
  rw [show look (mapsP es) n = (look es n).map (fun b => Value.map (some b)) from lookV_map (fun b => Value.map (some b)) es n] at hl
  simp only [Bool.false_eq_true, if_false] at hl
  rw [hl]
  cases look es n <;> rfl
theorem now_look (h : MgL w0 v mb tb g bl N V w) (m : Mem bl sb nb es inn ns) (n : Nm) : (Instr.lookup 29 (.map (some nb)) (.string (toB n)) false).run Tryz.prog w = .ok (.int .i64 ((look ns n).getD 0)) w := by
  obtain ⟨o, h1, h2⟩ := m.now
  have hl := MapO.lookup (P := Tryz.prog) (kindsN und_str) und_ints (z := .int .i64 0) (by kernel_rfl) h2 (h.block h1) n false
  rw [show look (intsV ns) n = (look ns n).map (fun i => Value.int .i64 i) from lookV_map (fun i => Value.int .i64 i) ns n] at hl
  simp only [Bool.false_eq_true, if_false] at hl
  rw [hl]
  cases look ns n <;> rfl
theorem now_put (h : MgL w0 v mb tb g bl N V w) (m : Mem bl sb nb es inn ns) (n : Nm) (i : Int) : ∃ o' bl', (Instr.mapUpdate 29 (.map (some nb)) (.string (toB n)) (.int .i64 i)).run Tryz.prog w = .ok () (setBlock w nb o') ∧ MgL w0 v mb tb g bl' N V (setBlock w nb o') ∧ Mem bl' sb nb es inn (put ns n i) := by
  obtain ⟨o, h1, h2⟩ := m.now
  obtain ⟨o', e1, e2⟩ := h2.update (P := Tryz.prog) (kindsN und_str) und_ints (h.block h1) n (.int .i64 i)
  rw [show put (intsV ns) n (.int .i64 i) = intsV (put ns n i) from (putV_map (fun i => Value.int .i64 i) ns n i).symm] at e2
  refine ⟨o', upd bl nb o', e1, h.turnB h1 o', ?_⟩
  obtain ⟨o2, h3, h4⟩ := m.since
  exact ⟨⟨o2, upd_other h3 m.ne o', h4⟩, ⟨o', upd_same h1 o', e2⟩, fun p hp => by
    obtain ⟨⟨o3, h5, h6⟩, h7, h8⟩ := m.inner p hp
    exact ⟨⟨o3, upd_other h5 h8 o', h6⟩, h7, h8⟩, m.ne, m.keys, m.apart⟩
theorem since_del (h : MgL w0 v mb tb g bl N V w) (m : Mem bl sb nb es inn ns) (n : Nm) : ∃ o' bl', (Builtin.delete_ #[28, 9] 0 #[.map (some sb), .string (toB n)]).run Tryz.prog w = .ok (.tuple #[]) (setBlock w sb o') ∧ MgL w0 v mb tb g bl' N V (setBlock w sb o') ∧ Mem bl' sb nb (del es n) inn ns := by
  obtain ⟨o, h1, h2⟩ := m.since
  obtain ⟨o', e1, e2⟩ := h2.delete (P := Tryz.prog) (kindsN und_str) und_maps (h.block h1) n 0
  rw [show del (mapsP es) n = mapsP (del es n) from (delV_map (fun b => Value.map (some b)) es n).symm] at e2
  refine ⟨o', upd bl sb o', e1, h.turnB h1 o', ?_⟩
  obtain ⟨o2, h3, h4⟩ := m.now
  have hs := (del_sub es n).subset
  exact ⟨⟨o', upd_same h1 o', e2⟩, ⟨o2, upd_other h3 (Ne.symm m.ne) o', h4⟩, fun p hp => by
    obtain ⟨⟨o3, h5, h6⟩, h7, h8⟩ := m.inner p (hs hp)
    exact ⟨⟨o3, upd_other h5 h7 o', h6⟩, h7, h8⟩, m.ne, m.keys.sublist ((del_sub _ _).map _), fun p hp q hq => m.apart p (hs hp) q (hs hq)⟩
theorem since_put (h : MgL w0 v mb tb g bl N V w) (m : Mem bl sb nb es inn ns) (n : Nm) {b : Nat} {o : Obj} (hb : (b, o) ∈ bl) (ho : MapO keyN o []) (h1 : b ≠ sb) (h2 : b ≠ nb) (h3 : ∀ p ∈ es, p.2 ≠ b) : ∃ o' bl', (Instr.mapUpdate 28 (.map (some sb)) (.string (toB n)) (.map (some b))).run Tryz.prog w = .ok () (setBlock w sb o') ∧ MgL w0 v mb tb g bl' N V (setBlock w sb o') ∧ Mem bl' sb nb (put es n b) (fun x => if x = n then [] else inn x) ns := by
  obtain ⟨os, k1, k2⟩ := m.since
  obtain ⟨o', e1, e2⟩ := k2.update (P := Tryz.prog) (kindsN und_str) und_maps (h.block k1) n (.map (some b))
  rw [show put (mapsP es) n (.map (some b)) = mapsP (put es n b) from (putV_map (fun b => Value.map (some b)) es n b).symm] at e2
  refine ⟨o', upd bl sb o', e1, h.turnB k1 o', ?_⟩
  obtain ⟨o2, k3, k4⟩ := m.now
  have hmem : ∀ p ∈ put es n b, p = (n, b) ∨ (p ∈ es ∧ p.1 ≠ n) := fun p hp => by
    have hl := look_of_mem (put_nodup m.keys n b) hp
    rw [look_put] at hl
    by_cases e : p.1 = n
    · rw [if_pos e] at hl
      injection hl with hl
      exact .inl (Prod.ext e hl.symm)
    · rw [if_neg e] at hl
      exact .inr ⟨look_mem hl, e⟩
  refine ⟨⟨o', upd_same k1 o', e2⟩, ⟨o2, upd_other k3 (Ne.symm m.ne) o', k4⟩, fun p hp => ?_, m.ne, put_nodup m.keys n b, fun p hp q hq e => ?_⟩
  · rcases hmem p hp with rfl | ⟨hp, hne⟩
    · exact ⟨⟨o, upd_other hb h1 o', by simp only [if_true]; exact ho⟩, h1, h2⟩
    · obtain ⟨⟨o3, h5, h6⟩, h7, h8⟩ := m.inner p hp
      exact ⟨⟨o3, upd_other h5 h7 o', by simp only [hne, if_false]; exact h6⟩, h7, h8⟩
  · rcases hmem p hp with rfl | ⟨hp, hne⟩ <;> rcases hmem q hq with rfl | ⟨hq, hne2⟩
    · rfl
    · exact absurd e.symm (h3 q hq)
    · exact absurd e (h3 p hp)
    · exact m.apart p hp q hq e
theorem inner_put (h : MgL w0 v mb tb g bl N V w) (m : Mem bl sb nb es inn ns) {n : Nm} {b : Nat} (hn : look es n = some b) (s : Nm) (i : Int) : ∃ o' bl', (Instr.mapUpdate 29 (.map (some b)) (.string (toB s)) (.int .i64 i)).run Tryz.prog w = .ok () (setBlock w b o') ∧ MgL w0 v mb tb g bl' N V (setBlock w b o') ∧ Mem bl' sb nb es (fun x => if x = n then put (inn n) s i else inn x) ns := by
  have hm := look_mem hn
  obtain ⟨⟨o, k1, k2⟩, k3, k4⟩ := m.inner _ hm
  obtain ⟨o', e1, e2⟩ := k2.update (P := Tryz.prog) (kindsN und_str) und_ints (h.block k1) s (.int .i64 i)
  rw [show put (intsV (inn n)) s (.int .i64 i) = intsV (put (inn n) s i) from (putV_map (fun i => Value.int .i64 i) (inn n) s i).symm] at e2
  refine ⟨o', upd bl b o', e1, h.turnB k1 o', ?_⟩
  obtain ⟨os, s1, s2⟩ := m.since
  obtain ⟨o2, n1, n2⟩ := m.now
  refine ⟨⟨os, upd_other s1 (Ne.symm k3) o', s2⟩, ⟨o2, upd_other n1 (Ne.symm k4) o', n2⟩, fun p hp => ?_, m.ne, m.keys, m.apart⟩
  obtain ⟨⟨o3, h5, h6⟩, h7, h8⟩ := m.inner p hp
  by_cases e : p.1 = n
  · have eb : p.2 = b := by
      have := look_of_mem m.keys hp
      rw [e, hn] at this
      injection this with this
      exact this.symm
    exact ⟨⟨o', by rw [eb]; exact upd_same k1 o', by simp only [e, if_true]; exact e2⟩, h7, h8⟩
  · refine ⟨⟨o3, upd_other h5 (fun eb => e (m.apart p hp _ hm eb)) o', by simp only [e, if_false]; exact h6⟩, h7, h8⟩
end
end Go.Proofs.YtkhnkidggcjfeaaGreatDoor
end
section
namespace Go.Proofs.YtkhnkidggcjfeaaGreatDoor
open Go.RowKit
open Go.ChangeMaps (setBlock)
def nowOf (ns : List (Nm × Int)) (p : Nm) : Int := (look ns p).getD 0
def sinceOf (es : List (Nm × Nat)) (inn : Nm → List (Nm × Int)) (n : Nm) : Option (List (Nm × Int)) := (look es n).map fun _ => inn n
theorem now_put2 (ns : List (Nm × Int)) (p : Nm) (i : Int) (q : Nm) : nowOf (put ns p i) q = if q = p then i else nowOf ns q := by
  unfold nowOf
  rw [look_put]
  split <;> rfl
section
variable {V : MV} {S : Nm → Option (List (Nm × Int))} {now now' : Nm → Int} {k B : Nat} {ops : List OpD} {xs : List OpE}
theorem Rel4.later (h : Rel4 V S now k) {k' : Nat} (hk : k ≤ k') : Rel4 V S now k' :=
  h.turn hk h.fs (Int.le_refl _) rfl rfl (fun p => by have := h.now_ p; omega) fun p _ => .inl ⟨rfl, rfl⟩
theorem Rel4.go (hI : Inv V.E B) (h : Rel4 V S now k) (hF : Fs (DoE V.E xs).2) (hnx : V.E.next ≤ (DoE V.E xs).2.next) (hnow : ∀ p, -((k + 1 : Nat) : Int) ≤ now' p ∧ now' p ≤ ((k + 1 : Nat) : Int))
    (hp : ∀ p ∈ pths, (look (kidsE (DoE V.E xs).2) (toB p.tail) = look (kidsE V.E) (toB p.tail) ∧ now' p = now p) ∨ ((∀ i, i < V.E.next → look (kidsE (DoE V.E xs).2) (toB p.tail) ≠ some i) ∧ ((k : Int) < now' p ∨ now' p < -(k : Int)))) : Rel4 (doG V ops xs) S now' (k + 1) := by
  obtain ⟨a, b, c⟩ := hF.sweep (DoE_inv hI xs) V.held
  have e : (doG V ops xs).E = sweepE (DoE V.E xs).2 V.held := rfl
  refine h.turn (Nat.le_succ k) (by rw [e]; exact a) (by rw [e, c]; exact hnx) rfl rfl hnow fun p hpp => ?_
  rw [e, b]
  exact hp p hpp
theorem path_uniq {p q : Nm} (hp : p ∈ pths) (hq : q ∈ pths) : toB p.tail = toB q.tail ↔ p = q := by
  constructor
  · intro e
    have e' := toB_inj e
    simp only [pths, List.mem_cons, List.not_mem_nil, or_false] at hp hq
    rcases hp with rfl | rfl | rfl | rfl | rfl <;> rcases hq with rfl | rfl | rfl | rfl | rfl <;> first | rfl | exact absurd e' (by decide)
  · intro e; rw [e]
variable {ns : List (Nm × Int)} {p : Nm}
theorem act_replace (hI : Inv V.E B) (h : Rel4 V S (nowOf ns) k) (hp : p ∈ pths) :
    ((DoE V.E [⟨2, pNew, [], []⟩, ⟨5, pNew, p, []⟩]).1 = 0 → Rel4 (goV V ops [⟨2, pNew, [], []⟩, ⟨5, pNew, p, []⟩]) S (nowOf (put ns p (k + 1))) (k + 1)) ∧
    ((DoE V.E [⟨2, pNew, [], []⟩, ⟨5, pNew, p, []⟩]).1 ≠ 0 → Rel4 (goV V ops [⟨2, pNew, [], []⟩, ⟨5, pNew, p, []⟩]) S (nowOf ns) (k + 1)) := by
  refine ⟨fun h0 => ?_, fun h0 => by unfold goV; rw [if_neg h0]; exact h.later (Nat.le_succ k)⟩
  obtain ⟨o1, o2, o3, o4, o5, o6⟩ := one_pth hp
  obtain ⟨a, b, c⟩ := do_replace hI h.fs o1 o4 o5 h0
  unfold goV
  rw [if_pos h0]
  refine h.go hI a (by rw [b]; omega) (fun q => ?_) fun q hq => ?_
  · rw [now_put2]
    have := h.now_ q
    split <;> omega
  · rw [c, now_put2]
    by_cases e : q = p
    · rw [if_pos (by rw [e]), if_pos e]
      refine .inr ⟨fun i hi hh => ?_, .inl (by omega)⟩
      injection hh with hh
      omega
    · rw [if_neg (fun e2 => e ((path_uniq hq hp).1 e2)), if_neg e]
      exact .inl ⟨rfl, rfl⟩
theorem act_unlink (hI : Inv V.E B) (h : Rel4 V S (nowOf ns) k) (hp : p ∈ pths) :
    ((DoE V.E [⟨6, p, [], []⟩]).1 = 0 → Rel4 (goV V ops [⟨6, p, [], []⟩]) S (nowOf (put ns p (-(k : Int) - 1))) (k + 1)) ∧
    ((DoE V.E [⟨6, p, [], []⟩]).1 ≠ 0 → Rel4 (goV V ops [⟨6, p, [], []⟩]) S (nowOf ns) (k + 1)) := by
  refine ⟨fun h0 => ?_, fun h0 => by unfold goV; rw [if_neg h0]; exact h.later (Nat.le_succ k)⟩
  obtain ⟨o1, o2, o3, o4, o5, o6⟩ := one_pth hp
  obtain ⟨a, b, c⟩ := do_unlink hI h.fs o1 h0
  unfold goV
  rw [if_pos h0]
  refine h.go hI a (by rw [b]; omega) (fun q => ?_) fun q hq => ?_
  · rw [now_put2]
    have := h.now_ q
    split <;> omega
  · rw [c, now_put2]
    by_cases e : q = p
    · rw [if_pos (by rw [e]), if_pos e]
      exact .inr ⟨(fun i hi hh => nomatch hh), .inr (by omega)⟩
    · rw [if_neg (fun e2 => e ((path_uniq hq hp).1 e2)), if_neg e]
      exact .inl ⟨rfl, rfl⟩
theorem act_write (hI : Inv V.E B) (h : Rel4 V S (nowOf ns) k) (hp : p ∈ pths) {zs : List Int} (hz : zs.length ≤ 3500) : Rel4 (goV V ops [⟨3, p, [], zs⟩]) S (nowOf ns) (k + 1) := by
  unfold goV
  by_cases h0 : (DoE V.E [⟨3, p, [], zs⟩]).1 = 0
  · obtain ⟨o1, o2, o3, o4, o5, o6⟩ := one_pth hp
    obtain ⟨a, b, c⟩ := do_write hI h.fs o1 hz h0
    rw [if_pos h0]
    exact h.go hI a (by rw [b]; omega) (fun q => by have := h.now_ q; omega) fun q hq => .inl ⟨c _, rfl⟩
  · rw [if_neg h0]; exact h.later (Nat.le_succ k)
theorem act_away (hI : Inv V.E B) (h : Rel4 V S (nowOf ns) k) (hp : p ∈ pths) : Rel4 (goV V ops [⟨5, p, pAway, []⟩, ⟨5, pAway, p, []⟩]) S (nowOf ns) (k + 1) := by
  unfold goV
  by_cases h0 : (DoE V.E [⟨5, p, pAway, []⟩, ⟨5, pAway, p, []⟩]).1 = 0
  · obtain ⟨o1, o2, o3, o4, o5, o6⟩ := one_pth hp
    obtain ⟨a, b, c⟩ := do_away hI h.fs o1 o5 h0
    rw [if_pos h0]
    exact h.go hI a (by rw [b]; omega) (fun q => by have := h.now_ q; omega) fun q hq => .inl ⟨c _, rfl⟩
  · rw [if_neg h0]; exact h.later (Nat.le_succ k)
end
theorem rel_start : Rel4 VN (sinceOf [] fun _ => []) (nowOf []) 0 := by
  have hk : kidsE VN.E = [(toB [97], 2), (toB [98], 3), (toB [99], 4), (toB [100], 5), (toB [101], 6)] := by rw [VN_E]; rfl
  have hl : ∀ x i, look (kidsE VN.E) x = some i → (x, i) ∈ [(toB [97], (2 : Int)), (toB [98], 3), (toB [99], 4), (toB [100], 5), (toB [101], 6)] := fun x i h => by rw [hk] at h; exact look_mem h
  refine ⟨⟨fun x i h => ?_, fun x y i hx hy => ?_, by rw [VN_E]; decide, by rw [VN_E]; decide⟩, fun n hn => rfl, fun n hn hs => .inl rfl, (fun n hn vs hs => nomatch hs), (fun n hn m hm hne r r' h1 => nomatch h1), fun p => ⟨by show -((0 : Nat) : Int) ≤ 0; omega, by show (0 : Int) ≤ ((0 : Nat) : Int); omega⟩⟩
  · have := hl x i h
    simp only [List.mem_cons, List.not_mem_nil, or_false, Prod.mk.injEq] at this
    rw [VN_E]
    rcases this with ⟨_, rfl⟩ | ⟨_, rfl⟩ | ⟨_, rfl⟩ | ⟨_, rfl⟩ | ⟨_, rfl⟩ <;> exact ⟨⟨false, [], [], 1⟩, rfl, rfl⟩
  · have h1 := hl x i hx
    have h2 := hl y i hy
    simp only [List.mem_cons, List.not_mem_nil, or_false, Prod.mk.injEq] at h1 h2
    rcases h1 with ⟨rfl, rfl⟩ | ⟨rfl, rfl⟩ | ⟨rfl, rfl⟩ | ⟨rfl, rfl⟩ | ⟨rfl, rfl⟩ <;> rcases h2 with ⟨rfl, e⟩ | ⟨rfl, e⟩ | ⟨rfl, e⟩ | ⟨rfl, e⟩ | ⟨rfl, e⟩ <;> first | rfl | exact absurd e (by decide)
end Go.Proofs.YtkhnkidggcjfeaaGreatDoor
end
section
namespace Go.Proofs.YtkhnkidggcjfeaaGreatDoor
open Go.RowKit
open Go.ChangeMaps (setBlock)
def okL (l : List Nm) : Prop := l.length ≤ 10 ∧ ∀ s ∈ l, s.length ≤ 60
def SmallU (us : List GU) : Prop := us.length ≤ 20 ∧ ∀ u ∈ us, ∀ l ∈ u.lists ++ [[u.name]], okL l
def SmallPost (w : World) (us : List GU) (e : Ending) (w' : World) : Prop := Below w.heap.size w w' ∧ (e = .returned (.int .i64 0) ∨ e = .returned (.int .i64 1) ∧ SmallU us)
end Go.Proofs.YtkhnkidggcjfeaaGreatDoor
end
section
namespace Go.Proofs.YtkhnkidggcjfeaaGreatDoor
open Go.RowKit Go.WideShapes Go.ChangeShapes Go.ChangeAt
theorem choose_listG {β : Type} {P : Nat → β → Prop} : ∀ (n : Nat), (∀ i < n, ∃ y, P i y) → ∃ l : List β, l.length = n ∧ ∀ i (hi : i < l.length), P i l[i] := by
  intro n
  induction n with
  | zero => intro _; exact ⟨[], rfl, fun i hi => absurd hi (by simp)⟩
  | succ n ih =>
    intro h
    obtain ⟨l, h1, h2⟩ := ih fun i hi => h i (by omega)
    obtain ⟨y, hy⟩ := h n (Nat.lt_succ_self n)
    refine ⟨l ++ [y], by simp [h1], fun i hi => ?_⟩
    by_cases hin : i < l.length
    · rw [List.getElem_append_left hin]; exact h2 i hin
    · have : i = l.length := by simp at hi; omega
      subst this
      simp only [List.getElem_append_right (Nat.le_refl _), Nat.sub_self, List.getElem_cons_zero]
      rw [h1]; exact hy
section
variable {H : Type} {enc : TypeId × Value → H} {P : Program} {w : World} {base : Nat} {spare : Nat → Bool} {held : Bool}
end
theorem cellsG_int : Tryz.prog.cellsOf 3 = 1 := by kernel_rfl
theorem spot_zeroG {ad : Addr} {w : World} {v : Value} (h : w.cell? (ad.add 0) = some v) : ad.spot = none := by
  have := World.cell?_spot h
  unfold Addr.add at this
  rwa [if_pos rfl] at this
theorem spot_cellsG {w : World} {base n : Nat} {ad : Addr} {cs : List Value} (h : w.cells? base (ad.add (0 * n)) n = some cs) (hn : 0 < n) : ad.spot = none := by
  obtain ⟨_, h2, h3⟩ := World.cells?_some h
  have h0 := h3 0 hn
  rw [List.getElem?_eq_getElem (by omega), Nat.zero_mul] at h0
  have e : (ad.add 0) = ad := by unfold Addr.add; rw [if_pos rfl]
  rw [e] at h0
  exact spot_zeroG h0
theorem cells_atG {w : World} {base k n : Nat} {ad : Addr} {cs : List Value} (h : w.cells? base (ad.add k) n = some cs) (hs : ad.spot = none) : ∃ b off, ad = ⟨b, off, none⟩ ∧ w.rangeAt b (off + k) cs ∧ cs.length = n := by
  obtain ⟨_, h2, h3⟩ := World.cells?_some h
  obtain ⟨b, off, spot⟩ := ad
  have hs : spot = none := hs
  subst hs
  refine ⟨b, off, rfl, fun j v hj => ?_, h2⟩
  have hjl : j < n := by
    rw [← h2]
    exact (List.getElem?_eq_some_iff.1 hj).1
  have := h3 j hjl
  rw [Addr.add_mid, Addr.add_mid] at this
  rw [this]; exact hj
end Go.Proofs.YtkhnkidggcjfeaaGreatDoor
end
section
namespace Go.Proofs.YtkhnkidggcjfeaaGreatDoor
open Go.RowKit Go.WideShapes Go.ChangeShapes
theorem cells17_act : Tryz.prog.cellsOf 31 = 2 := by kernel_rfl
def Acts17 (w : World) (a : Option Addr) (l : List (Int × Int)) : Prop := ∀ i (h : i < l.length), ∃ (g off : Nat), a = some ⟨g, off, none⟩ ∧ w.cell? ⟨g, off + i * 2, none⟩ = some (.int .i64 l[i].1) ∧ w.cell? ⟨g, off + i * 2 + 1, none⟩ = some (.int .i64 l[i].2)
theorem Acts17.later {w w' : World} {a : Option Addr} {l : List (Int × Int)} (h : Acts17 w a l) (hb : Below w.heap.size w w') : Acts17 w' a l := fun i hi => by
  obtain ⟨g, off, e, h1, h2⟩ := h i hi
  exact ⟨g, off, e, (hb.cell (p := ⟨g, off + i * 2, none⟩) (World.block_lt_of_cell? w _ h1)).trans h1, (hb.cell (p := ⟨g, off + i * 2 + 1, none⟩) (World.block_lt_of_cell? w _ h2)).trans h2⟩
theorem open_acts17 {H : Type} {enc : TypeId × Value → H} {w : World} {base fuel : Nat} {held : Bool} {v : Value} {x : DataW H × List MemPlace} (hf : DataW.trod enc Tryz.prog w base (fun _ => true) held fuel 22 [v] = some x) :
    ∃ (a : Option Addr) (l : List (Int × Int)) (cap : Nat), v = .slice a l.length cap ∧ Acts17 w a l ∧ l.length ≤ maxLen := by
  rcases Go.Deep.open_slice Tryz.underlying22 hf with ⟨h1, hx⟩ | ⟨ad, len, cp, m, q, D, Pl, h1, hb, hl, hm, hmm, hxx, hx⟩
  · injection h1 with h1 _
    subst h1
    exact ⟨none, [], 0, rfl, fun i hi => absurd hi (by simp), Nat.zero_le _⟩
  · injection h1 with h1 _
    subst h1
    have hsp0 : 0 < len → ad.spot = none := fun h0 => by
      obtain ⟨cs, hc, _⟩ := hx 0 (by rw [hmm]; split <;> omega)
      rw [cells17_act] at hc
      exact spot_cellsG hc (by decide)
    have each : ∀ i < len, ∃ y : Int × Int, ∃ (g off : Nat), (some ad) = some ⟨g, off, none⟩ ∧ w.cell? ⟨g, off + i * 2, none⟩ = some (.int .i64 y.1) ∧ w.cell? ⟨g, off + i * 2 + 1, none⟩ = some (.int .i64 y.2) := fun i hi => by
      obtain ⟨cs, hc, ht⟩ := hx i (by rw [hmm]; split <;> omega)
      rw [cells17_act] at hc
      obtain ⟨b, off, e, hr, hlen⟩ := cells_atG hc (hsp0 (by omega))
      obtain ⟨c0, c1, rfl⟩ : ∃ c0 c1, cs = [c0, c1] := by
        match cs, hlen with
        | [c0, c1], _ => exact ⟨c0, c1, rfl⟩
      obtain ⟨y0, y1, n', _, hcl, t0, t1⟩ := trod_struct2 Tryz.underlying31 ht
      simp only [cellsG_int, List.drop_zero, List.drop_succ_cons, List.take_succ_cons, List.take_zero] at t0 t1
      obtain ⟨κ, e0, _, w0⟩ := DataW.trod_int Tryz.underlying3 t0
      obtain ⟨s, e1, _, w1⟩ := DataW.trod_int Tryz.underlying3 t1
      injection e0 with e0 _; injection e1 with e1 _
      subst e0 e1
      exact ⟨(κ, s), b, off, by rw [e], hr 0 _ rfl, hr 1 _ rfl⟩
    obtain ⟨l, hl1, hl2⟩ := choose_listG len each
    exact ⟨some ad, l, cp, by rw [hl1], fun i hi => hl2 i hi, by omega⟩
end Go.Proofs.YtkhnkidggcjfeaaGreatDoor
end
section
namespace Go.Proofs.YtkhnkidggcjfeaaGreatDoor
open Go.RowKit
open Go.ChangeMaps (setBlock)
theorem and3h (n : Int) : ∃ r : Nat, bits .and .i64 n 3 = (r : Int) ∧ r < 4 := by
  have h3 : (BitVec.ofInt 64 3).toNat = 2 ^ 2 - 1 := by decide
  have key : (BitVec.ofInt 64 n &&& BitVec.ofInt 64 3).toNat = (n % ((2 ^ 64 : Nat) : Int)).toNat % 2 ^ 2 := by
    rw [BitVec.toNat_and, BitVec.toNat_ofInt, h3, Nat.and_two_pow_sub_one_eq_mod]
  refine ⟨(n % 4).toNat, ?_, by omega⟩
  show IntKind.i64.wrap ((BitVec.ofInt 64 n &&& BitVec.ofInt 64 3).toNat : Nat) = _
  rw [key, IntKind.wrap_i64]
  omega
theorem and1023 (n : Int) : ∃ r : Nat, bits .and .i64 n 1023 = (r : Int) ∧ r < 1024 := by
  have h3 : (BitVec.ofInt 64 1023).toNat = 2 ^ 10 - 1 := by decide
  have key : (BitVec.ofInt 64 n &&& BitVec.ofInt 64 1023).toNat = (n % ((2 ^ 64 : Nat) : Int)).toNat % 2 ^ 10 := by
    rw [BitVec.toNat_and, BitVec.toNat_ofInt, h3, Nat.and_two_pow_sub_one_eq_mod]
  refine ⟨(n % 1024).toNat, ?_, by omega⟩
  show IntKind.i64.wrap ((BitVec.ofInt 64 n &&& BitVec.ofInt 64 1023).toNat : Nat) = _
  rw [key, IntKind.wrap_i64]
  omega
def Bud (V : MV) (k : Nat) : Prop := V.bud.1 ≤ 5 + 2 * k ∧ V.bud.2.1 ≤ 10 + 4 * k ∧ V.bud.2.2.1 = 399 ∧ V.bud.2.2.2 ≤ 1000 + 100 * k
theorem bud_start : Bud VN 0 := by unfold Bud; decide
theorem Bud.later {V : MV} {k k' : Nat} (h : Bud V k) (hk : k ≤ k') : Bud V k' := by
  obtain ⟨a, b, c, d⟩ := h
  exact ⟨by omega, by omega, c, by omega⟩
theorem Bud.go {V : MV} {k : Nat} (h : Bud V k) {ops : List OpD} {xs : List OpE} (h1 : xs.length ≤ 2) (h2 : roomM (recO (pks ops xs)).length ≤ 4) : Bud (goV V ops xs) (k + 1) := by
  unfold goV
  split
  · obtain ⟨a, b, c, d⟩ := h
    refine ⟨?_, ?_, c, ?_⟩
    · show V.bud.1 + xs.length ≤ _; omega
    · show V.bud.2.1 + roomM _ ≤ _; omega
    · show V.bud.2.2.2 + 100 ≤ _; omega
  · exact h.later (Nat.le_succ k)
theorem issue_bud (V : MV) (n : Nm) (fs : List Nm) (t : Int) : (issueV V n fs t).2.bud = V.bud := by
  have h : (spawnV V (toB n) fs).bud = V.bud := by
    unfold spawnV
    split
    · rfl
    · split
      · rfl
      · split <;> rfl
  unfold issueV
  split <;> exact h
theorem start_bud (V : MV) (n : Nm) : (startV usN V n).2.bud = V.bud := by
  unfold startV
  split
  · rfl
  · split
    · rfl
    · split
      · rfl
      · exact issue_bud ..
theorem exit_bud (V : MV) (p : Int) : (exitV V p).bud = V.bud := by
  unfold exitV
  split <;> rfl
theorem fail_bud (V : MV) (n : Nm) : (failV usN V n).2.bud = V.bud := by
  unfold failV
  split
  · rfl
  · split
    · exact exit_bud ..
    · split
      · exact (issue_bud ..).trans (exit_bud ..)
      · exact exit_bud ..
theorem Gd.runs0 {N : Nat} {V : MV} (h : Gd N V) : look V.runs 0 = none := by
  cases hl : look V.runs 0 with
  | none => rfl
  | some x =>
    have := (h.each _ (look_mem hl)).1.1
    exact absurd this (by show ¬ ((1 : Int) ≤ 0); decide)
section
variable {w0 w w1 : World} {v mb tb g N sb nb k n : Nat} {V : MV} {bl S : Blocks} {L : List Rw} {es : List (Nm × Nat)} {inn : Nm → List (Nm × Int)} {ns : List (Nm × Int)}
theorem MgAt.inv {us : List GU} {ord : OrdX} (h : MgAt w0 v mb tb g us ord N V w) : ∃ B, Inv V.E B := by
  obtain ⟨K, L0, X, Y, M, h1, rfl, _⟩ := h
  obtain ⟨o, k1, _⟩ := h1.x
  obtain ⟨S, R, L, T, _, hI, _⟩ := k1
  exact ⟨_, hI.inv⟩
def NhS (w0 : World) (v mb tb g sb nb k : Nat) (wr : World) : Prop :=
  ∃ V es inn ns bl N, N ≤ 2 * k ∧ MgL w0 v mb tb g bl N V wr ∧ Mem bl sb nb es inn ns ∧ Rel4 V (sinceOf es inn) (nowOf ns) k ∧ Bud V k
theorem NhS.later (h : NhS w0 v mb tb g sb nb k w) {w' : World} (hb : Below w.heap.size w w') : NhS w0 v mb tb g sb nb k w' := by
  obtain ⟨V, es, inn, ns, bl, N, h1, h2, h3⟩ := h
  exact ⟨V, es, inn, ns, bl, N, h1, h2.later hb, h3⟩
theorem NhS.below (h : NhS w0 v mb tb g sb nb k w) : Below w0.heap.size w0 w := by
  obtain ⟨V, es, inn, ns, bl, N, h1, h2, h3⟩ := h
  exact h2.below
theorem fail_nh (h : NhS w0 v mb tb g sb nb k w) (hm : Mx w0) (hk : k ≤ 60) {u : Nm} (hu : u ∈ all4) :
    Calls Tryz.prog 10 #[.pointer (some ⟨mb, 0, none⟩), .string (toB u)] w fun e w' => ∃ c : Int, e = .returned (.int .i64 c) ∧ (c ≠ 0 → NhS w0 v mb tb g sb nb (k + 1) w') ∧ (c = 0 → ∃ o', (Builtin.delete_ #[28, 9] 0 #[.map (some sb), .string (toB u)]).run Tryz.prog w' = .ok (.tuple #[]) (setBlock w' sb o') ∧ NhS w0 v mb tb g sb nb (k + 1) (setBlock w' sb o')) := by
  obtain ⟨V, es, inn, ns, bl, N, h1, h2, h3, h4, h5⟩ := h
  obtain ⟨B, hI⟩ := h2.inv
  obtain ⟨r1, r2⟩ := h4.fail h2.good hI hu
  refine (fail_at h2 hm (by omega) shortN u (Nat.le_refl _)).mono fun e w' hh => ?_
  obtain ⟨he, h6⟩ := hh
  refine ⟨_, he, fun hc => ⟨_, es, inn, ns, bl, N + 2, by omega, h6, h3, (r1 hc).later (Nat.le_succ k), ?_⟩, fun hc => ?_⟩
  · have := h5.later (Nat.le_succ k)
    unfold Bud at this ⊢
    rw [fail_bud]; exact this
  · obtain ⟨o', bl', e1, e2, e3⟩ := since_del h6 h3 u
    refine ⟨o', e1, _, del es u, inn, ns, bl', N + 2, by omega, e2, e3, ?_, ?_⟩
    · refine Eq.mp ?_ ((r2 hc).later (Nat.le_succ k))
      congr 1
      funext m
      unfold sinceOf
      by_cases e : m = u
      · rw [if_pos e, e, look_del_same h3.keys]; rfl
      · rw [if_neg e, look_del_ne e]
    · have := h5.later (Nat.le_succ k)
      unfold Bud at this ⊢
      rw [fail_bud]; exact this
end
end Go.Proofs.YtkhnkidggcjfeaaGreatDoor
end
section
namespace Go.Proofs.YtkhnkidggcjfeaaGreatDoor
open Go.RowKit
open Go.ChangeMaps (setBlock)
abbrev tsR (p : Nm) : List (Int × Nm × Nm) := [(2, pNew, []), (5, pNew, p)]
abbrev tsU (p : Nm) : List (Int × Nm × Nm) := [(6, p, [])]
abbrev tsA (p : Nm) : List (Int × Nm × Nm) := [(5, p, pAway), (5, pAway, p)]
theorem ts_facts {p : Nm} (hp : p ∈ pths) : (TsOk (tsR p) ∧ TsOk (tsU p) ∧ TsOk (tsA p)) ∧ (lenT (tsR p) ≤ 4096 ∧ roomM (lenT (tsR p)) ≤ 4) ∧ (lenT (tsU p) ≤ 4096 ∧ roomM (lenT (tsU p)) ≤ 4) ∧ (lenT (tsA p) ≤ 4096 ∧ roomM (lenT (tsA p)) ≤ 4) := by
  simp only [pths, List.mem_cons, List.not_mem_nil, or_false] at hp
  rcases hp with rfl | rfl | rfl | rfl | rfl <;> exact ⟨⟨⟨by decide, by decide, by decide, by decide⟩, ⟨by decide, by decide, by decide, by decide⟩, ⟨by decide, by decide, by decide, by decide⟩⟩, by decide, by decide, by decide⟩
section
variable {w0 w w1 : World} {v mb tb g N sb nb k n : Nat} {V : MV} {bl S : Blocks} {L : List Rw} {es : List (Nm × Nat)} {inn : Nm → List (Nm × Int)} {ns : List (Nm × Int)} {a : Option Addr} {cp : Nat} {p : Nm}
theorem replace_nh (h : NhS w0 v mb tb g sb nb k w) (hm : Mx w0) (hk : k ≤ 60) (hp : p ∈ pths) (cap : Nat) (kO : Own w w1 [rowO (.slice a 2 cp) (opsT (tsR p))]) :
    Calls Tryz.prog 11 #[.pointer (some ⟨v, 0, none⟩), .slice a 2 cap] w1 fun e w' => ∃ c : Int, e = .returned (.int .i64 c) ∧ (c ≠ 0 → NhS w0 v mb tb g sb nb (k + 1) w') ∧ (c = 0 → ∃ o', (Instr.mapUpdate 29 (.map (some nb)) (.string (toB p)) (.int .i64 (k + 1))).run Tryz.prog w' = .ok () (setBlock w' nb o') ∧ NhS w0 v mb tb g sb nb (k + 1) (setBlock w' nb o')) := by
  obtain ⟨V, es, inn, ns, bl, N, h1, h2, h3, h4, h5⟩ := h
  obtain ⟨B, hI⟩ := h2.inv
  obtain ⟨⟨t1, _, _⟩, ⟨l1, l2⟩, _⟩ := ts_facts hp
  obtain ⟨b1, b2, b3, b4⟩ := id h5
  obtain ⟨r1, r2⟩ := act_replace (ops := opsT (tsR p)) hI h4 hp
  refine (mdo_ts h2 hm (ts := tsR p) kO t1 cap (by show V.bud.1 + 2 ≤ _; omega) l1 (by rw [b3]; omega) (by omega)).mono fun e w' hh => ?_
  obtain ⟨he, h6⟩ := hh
  have hb := h5.go (ops := opsT (tsR p)) (xs := xsT (tsR p)) (by show 2 ≤ 2; omega) (by rw [recO_len]; exact l2)
  refine ⟨_, he, fun hc => ⟨_, es, inn, ns, bl, N, by omega, h6, h3, r2 hc, hb⟩, fun hc => ?_⟩
  obtain ⟨o', bl', e1, e2, e3⟩ := now_put h6 h3 p (k + 1)
  exact ⟨o', e1, _, es, inn, put ns p (k + 1), bl', N, by omega, e2, e3, r1 hc, hb⟩
theorem unlink_nh (h : NhS w0 v mb tb g sb nb k w) (hm : Mx w0) (hk : k ≤ 60) (hp : p ∈ pths) (cap : Nat) (kO : Own w w1 [rowO (.slice a 1 cp) (opsT (tsU p))]) :
    Calls Tryz.prog 11 #[.pointer (some ⟨v, 0, none⟩), .slice a 1 cap] w1 fun e w' => ∃ c : Int, e = .returned (.int .i64 c) ∧ (c ≠ 0 → NhS w0 v mb tb g sb nb (k + 1) w') ∧ (c = 0 → ∃ o', (Instr.mapUpdate 29 (.map (some nb)) (.string (toB p)) (.int .i64 (-(k : Int) - 1))).run Tryz.prog w' = .ok () (setBlock w' nb o') ∧ NhS w0 v mb tb g sb nb (k + 1) (setBlock w' nb o')) := by
  obtain ⟨V, es, inn, ns, bl, N, h1, h2, h3, h4, h5⟩ := h
  obtain ⟨B, hI⟩ := h2.inv
  obtain ⟨⟨_, t1, _⟩, _, ⟨l1, l2⟩, _⟩ := ts_facts hp
  obtain ⟨b1, b2, b3, b4⟩ := id h5
  obtain ⟨r1, r2⟩ := act_unlink (ops := opsT (tsU p)) hI h4 hp
  refine (mdo_ts h2 hm (ts := tsU p) kO t1 cap (by show V.bud.1 + 1 ≤ _; omega) l1 (by rw [b3]; omega) (by omega)).mono fun e w' hh => ?_
  obtain ⟨he, h6⟩ := hh
  have hb := h5.go (ops := opsT (tsU p)) (xs := xsT (tsU p)) (by show 1 ≤ 2; omega) (by rw [recO_len]; exact l2)
  refine ⟨_, he, fun hc => ⟨_, es, inn, ns, bl, N, by omega, h6, h3, r2 hc, hb⟩, fun hc => ?_⟩
  obtain ⟨o', bl', e1, e2, e3⟩ := now_put h6 h3 p (-(k : Int) - 1)
  exact ⟨o', e1, _, es, inn, put ns p (-(k : Int) - 1), bl', N, by omega, e2, e3, r1 hc, hb⟩
theorem away_nh (h : NhS w0 v mb tb g sb nb k w) (hm : Mx w0) (hk : k ≤ 60) (hp : p ∈ pths) (cap : Nat) (kO : Own w w1 [rowO (.slice a 2 cp) (opsT (tsA p))]) :
    Calls Tryz.prog 11 #[.pointer (some ⟨v, 0, none⟩), .slice a 2 cap] w1 fun e w' => ∃ c : Int, e = .returned (.int .i64 c) ∧ NhS w0 v mb tb g sb nb (k + 1) w' := by
  obtain ⟨V, es, inn, ns, bl, N, h1, h2, h3, h4, h5⟩ := h
  obtain ⟨B, hI⟩ := h2.inv
  obtain ⟨⟨_, _, t1⟩, _, _, ⟨l1, l2⟩⟩ := ts_facts hp
  obtain ⟨b1, b2, b3, b4⟩ := id h5
  have r1 := act_away (ops := opsT (tsA p)) hI h4 hp
  refine (mdo_ts h2 hm (ts := tsA p) kO t1 cap (by show V.bud.1 + 2 ≤ _; omega) l1 (by rw [b3]; omega) (by omega)).mono fun e w' hh => ?_
  obtain ⟨he, h6⟩ := hh
  have hb := h5.go (ops := opsT (tsA p)) (xs := xsT (tsA p)) (by show 2 ≤ 2; omega) (by rw [recO_len]; exact l2)
  exact ⟨_, he, _, es, inn, ns, bl, N, by omega, h6, h3, r1, hb⟩
theorem write_nh (h : NhS w0 v mb tb g sb nb k w) (hm : Mx w0) (hk : k ≤ 60) (hp : p ∈ pths) (cap : Nat) {z : Int} (hz : 0 ≤ z ∧ z < 256) {da : Option Addr} (kO : Own w w1 [rowO (.slice a 1 cp) [⟨3, toB p, ⟨#[]⟩, da, 1, 1⟩], rowU (.slice da 1 1) [z]]) :
    Calls Tryz.prog 11 #[.pointer (some ⟨v, 0, none⟩), .slice a 1 cap] w1 fun e w' => ∃ c : Int, e = .returned (.int .i64 c) ∧ NhS w0 v mb tb g sb nb (k + 1) w' := by
  obtain ⟨V, es, inn, ns, bl, N, h1, h2, h3, h4, h5⟩ := h
  obtain ⟨B, hI⟩ := h2.inv
  obtain ⟨b1, b2, b3, b4⟩ := id h5
  obtain ⟨_, _, _, _, _, hlen⟩ := one_pth hp
  have r1 := act_write (ops := [⟨3, toB p, ⟨#[]⟩, da, 1, 1⟩]) hI h4 hp (zs := [z]) (by show 1 ≤ 3500; decide)
  have hsz : (toB p).size ≤ 2 := by rw [toB_size]; exact hlen
  have hrec : (recO (pks [⟨3, toB p, ⟨#[]⟩, da, 1, 1⟩] [⟨3, p, [], [z]⟩])).length ≤ 20 := by
    unfold recO
    show (111 :: (packD _ _ ++ [])).length ≤ 20
    unfold packD
    simp only [List.length_cons, List.length_append, sizedL_length, sb_length, List.length_nil]
    have : (le4 (3 : Int)).length = 4 := rfl
    have h0 : (⟨#[]⟩ : ByteArray).size = 0 := rfl
    omega
  have hroom : ∀ l, l ≤ 20 → roomM l ≤ 4 := by decide
  have hda : ∃ g0, da = some ⟨g0, 0, none⟩ := by
    have := kO.swap
    obtain ⟨g0, cp2, e, _⟩ := Own.form (h := (show Own w w1 (⟨5, 1, .slice da 1 1, 1, [.int .u8 z]⟩ :: [rowO (.slice a 1 cp) [⟨3, toB p, ⟨#[]⟩, da, 1, 1⟩]]) from this)) (by decide)
    injection e with e1 _ _
    exact ⟨g0, e1⟩
  obtain ⟨g0, rfl⟩ := hda
  refine (mdo_gen h2 hm (ops := [⟨3, toB p, ⟨#[]⟩, some ⟨g0, 0, none⟩, 1, 1⟩]) (xs := [⟨3, p, [], [z]⟩]) kO (fun S L hL => Ops.rowD (cp := cp) (hL _ (List.mem_cons_self ..)) rfl fun i hi => ?_) cap (fun o ho => ?_) (fun o ho => ?_) (fun x hx => ?_) (fun o ho => ?_) (by show 0 < 1; decide) (by show V.bud.1 + 1 ≤ _; omega) (by omega) (by have := hroom _ hrec; rw [b3]; omega) (by omega)).mono fun e w' hh => ?_
  · obtain rfl : i = 0 := by simp only [List.length_singleton] at hi; omega
    refine ⟨rfl, rfl, rfl, by unfold maxLen; show (toB p).size ≤ _; omega, by unfold maxLen; exact Nat.zero_le _, rfl, .inl ⟨some ⟨g0, 0, none⟩, 1, rfl, by show 1 ≤ 1; decide, by unfold maxLen; decide, fun x hx => ?_, .inr ⟨g0, 0, rfl, fun _ => ⟨1, [z], hL _ (List.mem_cons_of_mem _ (List.mem_cons_self ..)), by show 0 + 1 ≤ 1; decide, rfl⟩⟩⟩⟩
    obtain rfl := List.mem_singleton.1 hx
    exact hz
  · obtain rfl := List.mem_singleton.1 ho
    exact ⟨by show (0 : Int) ≤ 3; decide, by show (3 : Int) < _; decide⟩
  · obtain rfl := List.mem_singleton.1 ho
    exact ⟨by show (toB p).size ≤ _; omega, Nat.zero_le _⟩
  · obtain rfl := List.mem_singleton.1 hx
    show 1 ≤ 100000; decide
  · obtain rfl := List.mem_singleton.1 ho
    exact .inr (.inr rfl)
  · obtain ⟨he, h6⟩ := hh
    exact ⟨_, he, _, es, inn, ns, bl, N, by omega, h6, h3, r1, h5.go (by show 1 ≤ 2; omega) (hroom _ hrec)⟩
def NhI (w0 : World) (v mb tb g sb nb k : Nat) (u : Nm) (j : Nat) (wr : World) : Prop :=
  ∃ V es inn ns bl N b, N ≤ 2 * (k + 1) ∧ MgL w0 v mb tb g bl N V wr ∧ Mem bl sb nb es inn ns ∧ look es u = some b ∧ inn u = ((filesN u).take j).map (fun p => (p, nowOf ns p)) ∧
    Rel4 V (fun m => if m = u then some ((filesN u).map fun p => (p, nowOf ns p)) else sinceOf es inn m) (nowOf ns) (k + 1) ∧ Bud V (k + 1)
theorem start_nh (h : NhS w0 v mb tb g sb nb k w) (hm : Mx w0) (hk : k ≤ 60) {u : Nm} (hu : u ∈ all4) :
    Calls Tryz.prog 8 #[.pointer (some ⟨mb, 0, none⟩), .string (toB u)] w fun e w' => ∃ c : Int, e = .returned (.int .i64 c) ∧ (c ≠ 0 → NhS w0 v mb tb g sb nb (k + 1) w') ∧ (c = 0 → ∃ o', (Instr.mapUpdate 28 (.map (some sb)) (.string (toB u)) (.map (some w'.heap.size))).run Tryz.prog (w'.alloc (.map #[] 0)) = .ok () (setBlock (w'.alloc (.map #[] 0)) sb o') ∧ NhI w0 v mb tb g sb nb k u 0 (setBlock (w'.alloc (.map #[] 0)) sb o')) := by
  obtain ⟨V, es, inn, ns, bl, N, h1, h2, h3, h4, h5⟩ := h
  obtain ⟨B, hI⟩ := h2.inv
  obtain ⟨r1, r2⟩ := h4.start h2.good hI hu
  refine (start_at h2 hm (by omega) shortN u (Nat.le_refl _)).mono fun e w' hh => ?_
  obtain ⟨he, h6⟩ := hh
  have hb := h5.later (Nat.le_succ k)
  have hb' : Bud (startV usN V u).2 (k + 1) := by
    unfold Bud at hb ⊢
    rw [start_bud]; exact hb
  refine ⟨_, he, fun hc => ⟨_, es, inn, ns, bl, N + 2, by omega, h6, h3, (r1 hc).later (Nat.le_succ k), hb'⟩, fun hc => ?_⟩
  have hO : Own ⟨w', [(w'.heap.size, .map #[] 0)]⟩ (w'.alloc (.map #[] 0)) [] := (Own.start w').newB _
  have h7 : MgL w0 v mb tb g ((w'.heap.size, .map #[] 0) :: bl) (N + 2) (startV usN V u).2 (w'.alloc (.map #[] 0)) := MgL.push h6 hO
  have h8 : Mem ((w'.heap.size, .map #[] 0) :: bl) sb nb es inn ns := h3.mono fun m hm => List.mem_cons_of_mem _ hm
  have hlt : ∀ b x, (b, x) ∈ bl → b < w'.heap.size := fun b x hb => lt_of_heap (h6.block hb)
  obtain ⟨os, s1, _⟩ := h3.since
  obtain ⟨on, n1, _⟩ := h3.now
  obtain ⟨o', bl', e1, e2, e3⟩ := since_put h7 h8 u (List.mem_cons_self ..) (MapO.empty _) (fun e => by have := hlt _ _ s1; omega) (fun e => by have := hlt _ _ n1; omega) (fun p hp e => by
    obtain ⟨⟨o3, i1, _⟩, _⟩ := h3.inner p hp
    have := hlt _ _ i1
    omega)
  refine ⟨o', e1, _, _, _, ns, bl', N + 2, w'.heap.size, by omega, e2, e3, by rw [look_put, if_pos rfl], by simp, ?_, hb'⟩
  refine Eq.mp ?_ ((r2 hc).later (Nat.le_succ k))
  congr 1
  funext m
  by_cases e : m = u
  · rw [if_pos e, if_pos e]
  · rw [if_neg e, if_neg e]
    unfold sinceOf
    rw [look_put, if_neg e]
    simp only [e, if_false]
theorem cell_keep {w : World} {b : Nat} {o : Obj} {m : List (Nm × Value)} (hb : w.heap[b]? = some o) (hm : MapO keyN o m) {q : Addr} {x : Value} (hq : w.cell? q = some x) (o' : Obj) : (setBlock w b o').cell? q = some x := by
  obtain ⟨es, clock, rfl, _⟩ := hm
  have hne : q.block ≠ b := fun e => by
    unfold World.cell? at hq
    rw [e, hb] at hq
    cases hq
  rw [← hq]
  exact World.cell?_of_block (w := w) (by simp [setBlock, Ne.symm hne])
theorem NhI.later {u : Nm} {j : Nat} (h : NhI w0 v mb tb g sb nb k u j w) {w' : World} (hb : Below w.heap.size w w') : NhI w0 v mb tb g sb nb k u j w' := by
  obtain ⟨V, es, inn, ns, bl, N, b, h1, h2, h3⟩ := h
  exact ⟨V, es, inn, ns, bl, N, b, h1, h2.later hb, h3⟩
theorem note_nh {u : Nm} {j : Nat} (h : NhI w0 v mb tb g sb nb k u j w) (hu : u ∈ all4) (hj : j < (filesN u).length) : ∃ (b : Nat) (i : Int) (o' : Obj), (Instr.lookup 28 (.map (some sb)) (.string (toB u)) false).run Tryz.prog w = .ok (.map (some b)) w ∧ (Instr.lookup 29 (.map (some nb)) (.string (toB (filesN u)[j])) false).run Tryz.prog w = .ok (.int .i64 i) w ∧
    (Instr.mapUpdate 29 (.map (some b)) (.string (toB (filesN u)[j])) (.int .i64 i)).run Tryz.prog w = .ok () (setBlock w b o') ∧ NhI w0 v mb tb g sb nb k u (j + 1) (setBlock w b o') ∧ ∀ (q : Addr) (x : Value), w.cell? q = some x → (setBlock w b o').cell? q = some x := by
  obtain ⟨V, es, inn, ns, bl, N, b, h1, h2, h3, h4, h5, h6, h7⟩ := h
  have l1 := since_look h2 h3 u
  rw [h4] at l1
  have l2 := now_look h2 h3 (filesN u)[j]
  obtain ⟨o', bl', e1, e2, e3⟩ := inner_put h2 h3 h4 (filesN u)[j] (nowOf ns (filesN u)[j])
  have hkeep : ∀ (q : Addr) (x : Value), w.cell? q = some x → (setBlock w b o').cell? q = some x := fun q x hq => by
    obtain ⟨⟨oi, k1, k2⟩, _⟩ := h3.inner _ (look_mem h4)
    exact cell_keep (h2.block k1) k2 hq o'
  refine ⟨b, nowOf ns (filesN u)[j], o', l1, l2, e1, ⟨V, es, _, ns, bl', N, b, h1, e2, e3, h4, ?_, ?_, h7⟩, hkeep⟩
  · simp only [if_true]
    rw [h5, List.take_succ_eq_append_getElem hj, List.map_append]
    have hnd : (filesN u).Nodup := by
      simp only [all4, List.mem_cons, List.not_mem_nil, or_false] at hu
      rcases hu with rfl | rfl | rfl | rfl <;> decide
    refine put_new (fun hm => ?_) _
    rw [List.map_map] at hm
    obtain ⟨p, hp, hpe⟩ := List.mem_map.1 hm
    have hpe' : p = (filesN u)[j] := hpe
    obtain ⟨i, hi, hie⟩ := List.getElem_of_mem hp
    rw [List.length_take] at hi
    rw [List.getElem_take, hpe'] at hie
    have := (List.getElem_inj hnd).1 hie
    omega
  · refine Eq.mp ?_ h6
    congr 1
    funext m
    by_cases e : m = u
    · rw [if_pos e, if_pos e]
    · rw [if_neg e, if_neg e]
      unfold sinceOf
      simp only [e, if_false]
theorem noted_nh {u : Nm} (h : NhI w0 v mb tb g sb nb k u (filesN u).length w) : NhS w0 v mb tb g sb nb (k + 1) w := by
  obtain ⟨V, es, inn, ns, bl, N, b, h1, h2, h3, h4, h5, h6, h7⟩ := h
  refine ⟨V, es, inn, ns, bl, N, h1, h2, h3, ?_, h7⟩
  refine Eq.mp ?_ h6
  congr 1
  funext m
  unfold sinceOf
  by_cases e : m = u
  · rw [if_pos e, e, h4, h5, List.take_length]; rfl
  · rw [if_neg e]
end
end Go.Proofs.YtkhnkidggcjfeaaGreatDoor
end
section
namespace Go.Proofs.YtkhnkidggcjfeaaGreatDoor
open Go.RowKit
open Go.ChangeMaps (setBlock)
def RWI (w : World) (r rb : Nat) (m : List (Nm × Int)) (oi o : Obj) (done left : List (Nm × Int)) (wr : World) : Prop :=
  wr.heap[r]? = some oi ∧ w.heap[rb]? = some o ∧ IterO keyN oi rb o (intsV m) (intsV left) ∧ (done ++ left).Perm m ∧ Below w.heap.size w wr ∧ w.heap.size ≤ r
theorem RWI.start {w w1 : World} {rb : Nat} {m : List (Nm × Int)} {o : Obj} (h1 : w.heap[rb]? = some o) (h2 : MapO keyN o (intsV m)) (hb : Below w.heap.size w w1) : ∃ oi, (Instr.range 29 (.map (some rb))).run Tryz.prog w1 = .ok (.pointer (some ⟨w1.heap.size, 0, none⟩)) (w1.alloc oi) ∧ RWI w w1.heap.size rb m oi o [] m (w1.alloc oi) := by
  obtain ⟨oi, h3, h4⟩ := h2.range und_ints ((hb.block _ (lt_of_heap h1)).trans h1)
  exact ⟨oi, h3, (MapKept.heap_alloc w1 _).1, h1, h4, List.Perm.refl _, hb.alloc hb.size _, hb.size⟩
theorem RWI.next {w wr : World} {r rb : Nat} {m : List (Nm × Int)} {oi o : Obj} {done left : List (Nm × Int)} (h : RWI w r rb m oi o done left wr) :
    (left = [] ∧ ∀ ty, (Instr.next (.pointer (some ⟨r, 0, none⟩)) false ty).run Tryz.prog wr = .ok (.tuple #[.bool false]) wr) ∨
    ∃ (l1 l2 : List (Nm × Int)) (p : Nm × Int) (oi' : Obj) (w1 : World), left = l1 ++ p :: l2 ∧ (w1 = wr ∨ w1 = wr.drew) ∧ (∀ ty, (Instr.next (.pointer (some ⟨r, 0, none⟩)) false ty).run Tryz.prog wr = .ok (.tuple #[.bool true, .string (toB p.1), Value.int .i64 p.2]) (setBlock w1 r oi')) ∧
      RWI w r rb m oi' o (done ++ [p]) (l1 ++ l2) (setBlock w1 r oi') ∧ p ∈ m ∧
      (∀ u : World, u.heap[r]? = some oi' → u.heap[rb]? = some o → (Instr.entry (.pointer (some ⟨r, 0, none⟩))).run Tryz.prog u = .ok (.tuple #[.string (toB p.1), Value.int .i64 p.2]) u) := by
  obtain ⟨h1, h2, h3, h4, h5, h6⟩ := h
  have hlt := lt_of_heap h2
  have h2' : wr.heap[rb]? = some o := (h5.block _ hlt).trans h2
  rcases h3.next (P := Tryz.prog) 0 h1 h2' with ⟨g1, g2⟩ | ⟨x, y, z, w1, oi', g1, g2, g3, g4, g5⟩
  · left
    have : left = [] := List.map_eq_nil_iff.1 g1
    exact ⟨this, fun ty => g2⟩
  · right
    obtain ⟨l1, p, l2, e1, e2, e3, e4⟩ := map_split _ left x y z g1
    have hb1 : Below w.heap.size w w1 := by rcases g2 with rfl | rfl; exact h5; exact h5.drew
    have hlt1 : r < w1.heap.size := by rcases g2 with rfl | rfl <;> exact lt_of_heap h1
    obtain ⟨s1, s2, s3⟩ := setBlock_heap w1 r oi' hlt1
    refine ⟨l1, l2, p, oi', w1, e1, g2, fun ty => by rw [show (Instr.next (.pointer (some ⟨r, 0, none⟩)) false ty) = (Instr.next (.pointer (some ⟨r, 0, none⟩)) false 0) from rfl, g3, ← e3], ⟨s1, h2, by rw [show intsV (l1 ++ l2) = x ++ z by rw [← e2, ← e4]; simp [intsV]]; exact g4, ?_, below_setG hb1 h6 _, h6⟩, ?_, fun u hu hu2 => by rw [g5 u hu hu2, ← e3]⟩
    · refine List.Perm.trans ?_ h4
      rw [e1]
      simp only [List.append_assoc, List.singleton_append]
      exact (List.perm_middle.symm).append_left done
    · exact h4.subset (by rw [e1]; simp)
theorem RWI.entry {w wr : World} {r rb : Nat} {m : List (Nm × Int)} {oi o : Obj} {done left : List (Nm × Int)} (h : RWI w r rb m oi o done left wr) : wr.heap[r]? = some oi ∧ wr.heap[rb]? = some o := ⟨h.1, (h.2.2.2.2.1.block _ (lt_of_heap h.2.1)).trans h.2.1⟩
theorem RWI.left_eq {w wr : World} {r rb : Nat} {m : List (Nm × Int)} {oi o : Obj} {done left : List (Nm × Int)} (h : RWI w r rb m oi o done left wr) : leftG wr rb r = left.length := by
  obtain ⟨e1, e2⟩ := h.entry
  obtain ⟨es, clock, since, seen, c0, rfl, rfl, _, _, _, _, _, _, h7⟩ := h.2.2.1
  have := congrArg List.length h7
  simp only [leftG, e1, e2]
  simpa [intsV] using this
theorem filt_at (f : Nm → Bool) : ∀ (l : List Nm) (q : Nat) (hq : q < l.length), f l[q] = true → ∃ h : ((l.take q).filter f).length < (l.filter f).length, (l.filter f)[((l.take q).filter f).length] = l[q] := by
  intro l q hq hf
  have e : l = l.take q ++ l[q] :: l.drop (q + 1) := by
    rw [← List.drop_eq_getElem_cons hq, List.take_append_drop]
  have e2 : l.filter f = (l.take q).filter f ++ l[q] :: (l.drop (q + 1)).filter f := by
    conv => lhs; rw [e]
    rw [List.filter_append, List.filter_cons, if_pos hf]
  refine ⟨by rw [e2]; simp, ?_⟩
  simp only [e2]
  rw [List.getElem_append_right (Nat.le_refl _)]
  simp
theorem filt_succ (f : Nm → Bool) (l : List Nm) (q : Nat) (hq : q < l.length) : ((l.take (q + 1)).filter f).length = ((l.take q).filter f).length + if f l[q] then 1 else 0 := by
  rw [List.take_succ_eq_append_getElem hq, List.filter_append, List.length_append]
  congr 1
  cases h : f l[q] <;> simp [h]
theorem ask_nh {w0 w : World} {v mb tb g sb nb k : Nat} (h : NhS w0 v mb tb g sb nb k w) (hm : Mx w0) (hk : k ≤ 61) : ∃ (f : Nm → Bool) (es : List (Nm × Nat)) (inn : Nm → List (Nm × Int)) (ns : List (Nm × Int)),
    Calls Tryz.prog 12 #[.pointer (some ⟨v, 0, none⟩), .pointer (some ⟨mb, 0, none⟩)] w (fun e w' => ∃ v', e = .returned v' ∧ Own w w' [rowSs v' (all4.filter f)]) ∧
    (∀ W, Below w.heap.size w W → NhS w0 v mb tb g sb nb k W) ∧
    (∀ W u, Below w.heap.size w W → u ∈ all4 → Calls Tryz.prog 13 #[.pointer (some ⟨v, 0, none⟩), .pointer (some ⟨mb, 0, none⟩), .string (toB u)] W fun e w' => e = .returned (.bool (f u)) ∧ Below W.heap.size W w') ∧
    (∀ W n, Below w.heap.size w W → (Instr.lookup 29 (.map (some nb)) (.string (toB n)) false).run Tryz.prog W = .ok (.int .i64 (nowOf ns n)) W) ∧
    (∀ u ∈ all4, (f u = false ∧ ∀ W, Below w.heap.size w W → (Instr.lookup 28 (.map (some sb)) (.string (toB u)) false).run Tryz.prog W = .ok (.map none) W) ∨
      ∃ (b : Nat) (o : Obj), f u = (inn u).any (fun q => nowOf ns q.1 != q.2) ∧ w.heap[b]? = some o ∧ MapO keyN o (intsV (inn u)) ∧ ∀ W, Below w.heap.size w W → (Instr.lookup 28 (.map (some sb)) (.string (toB u)) false).run Tryz.prog W = .ok (.map (some b)) W) := by
  have H := h
  obtain ⟨V, es, inn, ns, bl, N, h1, h2, h3, h4, h5⟩ := h
  obtain ⟨B, hI⟩ := h2.inv
  have h0 := h2.good.runs0
  have hnd := h2.good.nodup
  have hN := nd_old h0 hnd h4
  have hh := in_old hI h0 hnd h4
  refine ⟨oldN (sinceOf es inn) (nowOf ns), es, inn, ns, ?_, fun W hb => H.later hb, fun W u hb hu => ?_, fun W n hb => ?_, fun u hu => ?_⟩
  · rw [← hh]
    exact hit_at h2 hm (by omega) hN
  · rw [← of_old hI h0 h4 hu]
    exact of_at (h2.later hb) hm u (hN.same _) (hN.few _) (hN.short _)
  · exact now_look (h2.later hb) h3 n
  · cases hl : look es u with
    | none =>
      left
      refine ⟨by unfold oldN sinceOf; rw [hl]; rfl, fun W hb => ?_⟩
      have := since_look (h2.later hb) h3 u
      rw [hl] at this
      exact this
    | some b =>
      right
      obtain ⟨⟨o, i1, i2⟩, _⟩ := h3.inner _ (look_mem hl)
      refine ⟨b, o, by unfold oldN sinceOf; rw [hl]; rfl, h2.block i1, i2, fun W hb => ?_⟩
      have := since_look (h2.later hb) h3 u
      rw [hl] at this
      exact this
end Go.Proofs.YtkhnkidggcjfeaaGreatDoor
end
