/- Texts one behind the other, each in a section of its own: what calls make of memory, step by step. -/
import Derived.Test.YtdjoahhcmkedhaaGreatDoorPackTreeBad7
import Derived.Deep.RegionHeld3
import Derived.Sort.OwnSortedInts
import Derived.Lib.OwnBridge

/- Unpack: the operations that bytes are. -/
section
namespace Go.Proofs.YtdjoahhcmkedhaaGreatDoor
open Go.RowKit
set_option linter.unusedVariables false
set_option linter.unusedSimpArgs false
set_option maxRecDepth 100000

theorem le4_num4 {zs : List Int} (hz : Byts zs) (hl : 4 ≤ zs.length) : le4 (num4 zs) ++ zs.drop 4 = zs := by
  match zs, hl with
  | a :: b :: c :: d :: r, _ =>
    obtain ⟨a0, a1⟩ := hz a (by simp)
    obtain ⟨b0, b1⟩ := hz b (by simp)
    obtain ⟨c0, c1⟩ := hz c (by simp)
    obtain ⟨d0, d1⟩ := hz d (by simp)
    have e : num4 (a :: b :: c :: d :: r) = a + 256 * b + 65536 * c + 16777216 * d := rfl
    rw [e]
    unfold le4
    have e1 : (a + 256 * b + 65536 * c + 16777216 * d) % 256 = a := by omega
    have e2 : (a + 256 * b + 65536 * c + 16777216 * d) / 256 % 256 = b := by omega
    have e3 : (a + 256 * b + 65536 * c + 16777216 * d) / 65536 % 256 = c := by omega
    have e4 : (a + 256 * b + 65536 * c + 16777216 * d) / 16777216 = d := by omega
    rw [e1, e2, e3, e4]; rfl
theorem sized_back {zs : List Int} {most : Int} (hz : Byts zs) (hs : isSized zs most) : sizedL (bodyOf zs) ++ restOf zs = zs := by
  have hl := bodyOf_length zs most hs hz
  unfold sizedL
  rw [hl, List.append_assoc]
  unfold bodyOf restOf
  rw [List.take_append_drop]
  exact le4_num4 hz hs.1
/-- An operation as bytes. -/
structure OpB where
  κ : Int
  p : List Int
  q : List Int
  d : List Int
def packB (o : OpB) : List Int := le4 o.κ ++ sizedL o.p ++ sizedL o.q ++ sizedL o.d
def packsB (l : List OpB) : List Int := (l.map packB).flatten
abbrev UState := List OpB × List Int × Bool
/-- One operation more is taken. -/
def stepU (s : UState) : UState :=
  (s.1 ++ [⟨(numP 6 s.2.1 s.2.2).1, (bodP 40 (numP 6 s.2.1 s.2.2).2.1 (numP 6 s.2.1 s.2.2).2.2).1,
    (bodP 40 (bodP 40 (numP 6 s.2.1 s.2.2).2.1 (numP 6 s.2.1 s.2.2).2.2).2.1 (bodP 40 (numP 6 s.2.1 s.2.2).2.1 (numP 6 s.2.1 s.2.2).2.2).2.2).1,
    (bodP 3500 (bodP 40 (bodP 40 (numP 6 s.2.1 s.2.2).2.1 (numP 6 s.2.1 s.2.2).2.2).2.1 (bodP 40 (numP 6 s.2.1 s.2.2).2.1 (numP 6 s.2.1 s.2.2).2.2).2.2).2.1
      (bodP 40 (bodP 40 (numP 6 s.2.1 s.2.2).2.1 (numP 6 s.2.1 s.2.2).2.2).2.1 (bodP 40 (numP 6 s.2.1 s.2.2).2.1 (numP 6 s.2.1 s.2.2).2.2).2.2).2.2).1⟩],
   (bodP 3500 (bodP 40 (bodP 40 (numP 6 s.2.1 s.2.2).2.1 (numP 6 s.2.1 s.2.2).2.2).2.1 (bodP 40 (numP 6 s.2.1 s.2.2).2.1 (numP 6 s.2.1 s.2.2).2.2).2.2).2.1
      (bodP 40 (bodP 40 (numP 6 s.2.1 s.2.2).2.1 (numP 6 s.2.1 s.2.2).2.2).2.1 (bodP 40 (numP 6 s.2.1 s.2.2).2.1 (numP 6 s.2.1 s.2.2).2.2).2.2).2.2).2)
theorem numP_len (most : Int) (zs : List Int) (bad : Bool) : (numP most zs bad).2.1.length ≤ zs.length - 4 := by
  unfold numP
  split
  · simp
  · simp
theorem bodP_len (most : Int) (zs : List Int) (bad : Bool) : (bodP most zs bad).2.1.length ≤ zs.length := by
  unfold bodP
  split
  · unfold restOf; simp only [List.length_drop]; omega
  · simp
theorem stepU_len (s : UState) (h : 0 < s.2.1.length) : (stepU s).2.1.length < s.2.1.length := by
  have h1 := numP_len 6 s.2.1 s.2.2
  unfold stepU
  simp only
  generalize numP 6 s.2.1 s.2.2 = a at *
  have h2 := bodP_len 40 a.2.1 a.2.2
  generalize bodP 40 a.2.1 a.2.2 = b at *
  have h3 := bodP_len 40 b.2.1 b.2.2
  generalize bodP 40 b.2.1 b.2.2 = c at *
  have h4 := bodP_len 3500 c.2.1 c.2.2
  omega
theorem numP_yes {most : Int} {zs : List Int} {bad : Bool} (h : (numP most zs bad).2.2 = false) : bad = false ∧ (4 ≤ zs.length ∧ num4 zs ≤ most) ∧ (numP most zs bad).1 = num4 zs ∧ (numP most zs bad).2.1 = zs.drop 4 := by
  unfold numP at h ⊢
  split at h
  · rename_i hs; rw [if_pos hs]; exact ⟨h, hs, rfl, rfl⟩
  · cases h
theorem bodP_yes {most : Int} {zs : List Int} {bad : Bool} (h : (bodP most zs bad).2.2 = false) : bad = false ∧ isSized zs most ∧ (bodP most zs bad).1 = bodyOf zs ∧ (bodP most zs bad).2.1 = restOf zs := by
  unfold bodP at h ⊢
  split at h
  · rename_i hs; rw [if_pos hs]; exact ⟨h, hs, rfl, rfl⟩
  · cases h
/-- What an operation that was taken is. -/
structure OkB (o : OpB) : Prop where
  κ : 0 ≤ o.κ ∧ o.κ ≤ 6
  p : Byts o.p ∧ o.p.length ≤ 40
  q : Byts o.q ∧ o.q.length ≤ 40
  d : Byts o.d ∧ o.d.length ≤ 3500
theorem step_back {l : List OpB} {zs : List Int} {bad : Bool} (hz : Byts zs) (h : (stepU (l, zs, bad)).2.2 = false) : bad = false ∧ ∃ o, (stepU (l, zs, bad)).1 = l ++ [o] ∧ OkB o ∧ packB o ++ (stepU (l, zs, bad)).2.1 = zs := by
  unfold stepU at h ⊢
  simp only at h ⊢
  obtain ⟨d1, d2, d3, d4⟩ := bodP_yes h
  rw [d3, d4]
  obtain ⟨c1, c2, c3, c4⟩ := bodP_yes d1
  rw [c4] at d2 ⊢
  rw [c3]
  obtain ⟨b1, b2, b3, b4⟩ := bodP_yes c1
  rw [b4] at d2 c2 ⊢
  rw [b3]
  obtain ⟨a1, a2, a3, a4⟩ := numP_yes b1
  rw [a4] at b2 c2 d2 ⊢
  rw [a3]
  have z1 : Byts (zs.drop 4) := hz.drop 4
  have z2 : Byts (restOf (zs.drop 4)) := (z1.drop 4).drop _
  have z3 : Byts (restOf (restOf (zs.drop 4))) := (z2.drop 4).drop _
  have l1 := bodyOf_length _ _ b2 z1
  have l2 := bodyOf_length _ _ c2 z2
  have l3 := bodyOf_length _ _ d2 z3
  have m1 := b2.2.1
  have m2 := c2.2.1
  have m3 := d2.2.1
  refine ⟨a1, _, rfl, ⟨⟨(num4_bounds zs hz).1, a2.2⟩, ⟨(z1.drop 4).take _, by show (bodyOf (zs.drop 4)).length ≤ 40; omega⟩, ⟨(z2.drop 4).take _, by show (bodyOf (restOf (zs.drop 4))).length ≤ 40; omega⟩, ⟨(z3.drop 4).take _, by show (bodyOf (restOf (restOf (zs.drop 4)))).length ≤ 3500; omega⟩⟩, ?_⟩
  unfold packB
  simp only [List.append_assoc]
  rw [sized_back z3 d2, sized_back z2 c2, sized_back z1 b2]
  exact le4_num4 hz a2.1
inductive RunU (s0 : UState) : UState → Prop
  | start : RunU s0 s0
  | step {s : UState} : RunU s0 s → 0 < s.2.1.length → RunU s0 (stepU s)
theorem RunU.back {zs : List Int} (hz : Byts zs) {s : UState} (h : RunU ([], zs, false) s) : Byts s.2.1 ∧ (s.2.2 = false → packsB s.1 ++ s.2.1 = zs ∧ ∀ o ∈ s.1, OkB o) := by
  induction h with
  | start => exact ⟨hz, fun _ => ⟨rfl, fun o ho => by cases ho⟩⟩
  | step h1 h2 ih =>
    rename_i s
    obtain ⟨l, ys, b⟩ := s
    obtain ⟨i1, i2⟩ := ih
    have hb : Byts (stepU (l, ys, b)).2.1 := by
      unfold stepU
      simp only
      have k1 : Byts (numP 6 ys b).2.1 := by
        unfold numP
        split
        · exact i1.drop 4
        · exact Byts.nil
      exact (bodP_byts (bodP_byts (bodP_byts k1).2).2).2
    refine ⟨hb, fun hf => ?_⟩
    obtain ⟨b0, o, e1, e2, e3⟩ := step_back i1 hf
    obtain ⟨j1, j2⟩ := i2 b0
    rw [e1]
    refine ⟨?_, fun x hx => ?_⟩
    · unfold packsB at j1 ⊢
      rw [List.map_append, List.flatten_append]
      simp only [List.map_cons, List.map_nil, List.flatten_cons, List.flatten_nil, List.append_nil, List.append_assoc]
      rw [e3]; exact j1
    · rcases List.mem_append.1 hx with hx | hx
      · exact j2 x hx
      · rw [List.mem_singleton.1 hx]; exact e2
/-- Operations in a row of the law's. -/
structure OpOf (L : List Rw) (o : OpD) (x : OpB) : Prop where
  kind : o.kind = x.κ
  p : o.p = strOfNums x.p
  q : o.q = strOfNums x.q
  n : o.n = x.d.length
  data : Pc L (.slice o.a o.n o.c) x.d
theorem OpOf.mono {L L' : List Rw} {o : OpD} {x : OpB} (h : OpOf L o x) (hs : ∀ r ∈ L, r ∈ L') : OpOf L' o x := ⟨h.kind, h.p, h.q, h.n, h.data.mono hs⟩
def rowO (v : Value) (ds : List OpD) : Rw := ⟨38, 4, v, ds.length, (ds.map OpD.cells).flatten⟩
theorem info_op3 : ∃ i, Tryz.prog.info? 38 = some i ∧ i.zero = some (.agg #[.int .i64 0, .string ⟨#[]⟩, .string ⟨#[]⟩, .slice none 0 0]) ∧ i.size = 4 ∧ i.bytes = 64 := by
  have h : (Tryz.prog.info? 38).map (fun i => (i.zero, i.size, i.bytes)) = some (some (.agg #[.int .i64 0, .string ⟨#[]⟩, .string ⟨#[]⟩, .slice none 0 0]), 4, 64) := by kernel_rfl
  cases hi : Tryz.prog.info? 38 with
  | none => rw [hi] at h; cases h
  | some i =>
    rw [hi] at h
    injection h with h
    injection h with h1 h2
    injection h2 with h2 h3
    exact ⟨i, rfl, h1, h2, h3⟩
abbrev zOp : Value := .agg #[.int .i64 0, .string ⟨#[]⟩, .string ⟨#[]⟩, .slice none 0 0]
theorem zOp_size : zOp.cells.size = 4 := rfl
theorem cells_len (o : OpD) : o.cells.length = 1 * 4 := rfl
theorem lit_src (w : World) (cs : List Value) (T : TypeId) (h1 : ∀ u ∈ cs, u.oneCell' = true) (H : Nat) (hH : H = w.heap.size) : Src (w.alloc (.cells cs.toArray T)) (.slice (some ⟨H, 0, none⟩) 1 1) 1 cs := by
  subst hH
  refine .inr ⟨_, _, rfl, fun j u hj => ?_, h1⟩
  rw [Addr.add_mid, Nat.zero_add, World.cell?_alloc_new]
  simpa using hj
def UnRel (W0 : Base) (L : List Rw) (r : Nat) (zs : List Int) (v : Value) (wr : World) : Prop :=
  ∃ (s : UState) (os : List (OpD × OpB)) (L1 : List Rw), RunU ([], zs, false) s ∧ Rd W0 wr (rowO v (os.map (·.1)) :: (L1 ++ L)) r s.2.1 s.2.2 ∧ os.map (·.2) = s.1 ∧ (∀ x ∈ os, OpOf (L1 ++ L) x.1 x.2) ∧ os.length + s.2.1.length ≤ zs.length
def leftU (W0 : Base) (L : List Rw) (r : Nat) (w : World) : Nat := match w.cell? ⟨r, 0, none⟩ with
  | some (.slice _ n _) => n
  | _ => 0
theorem Rd.left {W0 : Base} {w : World} {L : List Rw} {r : Nat} {zs : List Int} {bad : Bool} (h : Rd W0 w L r zs bad) (W1 : Base) (M : List Rw) : leftU W1 M r w = zs.length := by
  obtain ⟨v, h1, h2⟩ := h
  obtain ⟨c0, _, _⟩ := reader_cells h1
  obtain ⟨a, c, rfl, _⟩ := h2
  unfold leftU
  rw [c0]
end Go.Proofs.YtdjoahhcmkedhaaGreatDoor
end

/- loadFiles. -/
section
namespace Go.Proofs.YtdjoahhcmkedhaaGreatDoor
open Go.RowKit
open Go.ChangeMaps (setBlock)
set_option linter.unusedVariables false
set_option linter.unusedSimpArgs false
set_option maxRecDepth 100000

/-- A tree that is loaded, and the readers. -/
def FRel (w0 : World) (t : Nat) (next K : Int) (r2 r : Nat) (zs : List Int) (bad : Bool) (n2 : Nat) (wr : World) : Prop :=
  ∃ S M T zs2 bad2, Rd2 ⟨w0, S⟩ wr M r2 zs2 bad2 r zs bad ∧ Tree S (Pc M) t T ∧ PlT T K ∧ T.next = next ∧ zs2.length = n2
def LoadAt (w0 : World) (t : Nat) (next K : Int) (r : Nat) (zs : List Int) (bad : Bool) (b : Bool) (w' : World) : Prop :=
  ∃ S M T, Rd ⟨w0, S⟩ w' M r zs bad ∧ Tree S (Pc M) t T ∧ PlT T K ∧ T.next = next
theorem Rd2.left {W0 : Base} {w : World} {L : List Rw} {r2 r : Nat} {zs2 zs : List Int} {bad2 bad : Bool} (h : Rd2 W0 w L r2 zs2 bad2 r zs bad) (W1 : Base) (M : List Rw) : leftU W1 M r2 w = zs2.length := by
  obtain ⟨v, _, h1⟩ := h.inner
  exact h1.left W1 M
/-- The two readers' rows, with new rows between them. -/
theorem rows_between {W0 : Base} {w : World} {p q : Rw} {L1 M : List Rw} (h : Own W0 w (p :: (L1 ++ q :: M))) : Own W0 w (p :: q :: (L1 ++ M)) := h.perm (List.Perm.cons _ List.perm_middle)
theorem Pc.between {L1 M : List Rw} {r2 r : Nat} {v2 v u : Value} {b2 b : Bool} {zs : List Int} (h : Pc (rowR r2 v2 b2 :: (L1 ++ rowR r v b :: M)) u zs) : Pc (L1 ++ M) u zs := h.keep fun x hx he => by
  rcases List.mem_cons.1 hx with rfl | hx
  · exact (rowR_not he).elim
  · rcases List.mem_append.1 hx with hx | hx
    · exact List.mem_append_left _ hx
    · rcases List.mem_cons.1 hx with rfl | hx
      · exact (rowR_not he).elim
      · exact List.mem_append_right _ hx
theorem Tree.between {S : Blocks} {L1 M : List Rw} {r2 r : Nat} {v2 v : Value} {b2 b : Bool} {t : Nat} {T : Tr} (H : Tree S (Pc (rowR r2 v2 b2 :: (L1 ++ rowR r v b :: M))) t T) : Tree S (Pc (L1 ++ M)) t T := H.mono (fun b x _ hx => hx) (fun v zs h => h.between)
set_option maxHeartbeats 4000000 in
theorem loadFiles_any {w0 w : World} {S : Blocks} {M : List Rw} {t : Nat} {T : Tr} {r2 r : Nat} {zs2 zs : List Int} {bad2 bad : Bool} (hR : Rd2 ⟨w0, S⟩ w M r2 zs2 bad2 r zs bad) (H : Tree S (Pc M) t T) {K : Int} (hp : PlT T K) (hK0 : 0 ≤ K) :
    Calls Tryz.prog 53 #[.pointer (some ⟨t, 0, none⟩), .pointer (some ⟨r2, 0, none⟩)] w fun e w' => ∃ b, e = .returned (.bool b) ∧ LoadAt w0 t T.next K r zs bad b w' := by
  have HR0 := Lib.hid (show FRel w0 t T.next K r2 r zs bad zs2.length w from ⟨S, M, T, zs2, bad2, hR, H, hp, rfl, rfl⟩)
  generalize T.next = next at *
  clear hR H hp
  go_enter Tryz.func53, Tryz.ntmps53
  go_wp2_with fail
  go_loopw [] (fun wr => ∃ n2, FRel w0 t next K r2 r zs bad n2 wr) (fun wr => leftU ⟨w0, []⟩ [] r2 wr)
  case atStart => exact ⟨_, HR0.out⟩
  case round =>
    obtain ⟨n2, S, M, T, ys, b2, hR, H, hp, hnx, hn2⟩ := hrel
    have Hleft := Lib.hid (hR.left ⟨w0, []⟩ [])
    have HR := Lib.hid hR
    have HT := Lib.hid H
    have Hp := Lib.hid hp
    have Hnx := Lib.hid hnx
    obtain ⟨v, hpv, hRi⟩ := hR.inner
    have hmore := hRi.more
    clear hR H hp hnx hn2
    rcases Nat.eq_zero_or_pos ys.length with h0 | h0
    · rw [decide_eq_false (by omega)] at hmore
      have hgood := hRi.good
      have HF := Lib.hid (show LoadAt w0 t next K r zs bad (!b2) wr from ⟨S, M, T, HR.out.outer, HT.out, Hp.out, Hnx.out⟩)
      clear hRi hpv h0 HR HT Hp Hnx
      go_wp2_with (first
        | (go_at_call 43; refine hmore.mono ?_; rintro e w' ⟨rfl, rfl⟩)
        | (go_at_call 78; refine hgood.mono ?_; rintro e w' ⟨rfl, rfl⟩))
      go_ret
      exact ⟨_, rfl, HF.out⟩
    · rw [decide_eq_true h0] at hmore
      have hlen1 := numP_len 2147483647 ys b2
      have hn := hRi.num 2147483647
      obtain ⟨A, hA⟩ : ∃ A, numP 2147483647 ys b2 = A := ⟨_, rfl⟩
      rw [hA] at hn hlen1
      have hlen2 := bodP_len 3500 A.2.1 A.2.2
      obtain ⟨B, hB⟩ : ∃ B, bodP 3500 A.2.1 A.2.2 = B := ⟨_, rfl⟩
      rw [hB] at hlen2
      have Hlt := Lib.hid (show B.2.1.length < ys.length by omega)
      have Hpv := Lib.hid hpv
      clear hRi hpv hlen1 hlen2 hA h0 HR
      go_wp2_with (go_at_call 43; refine hmore.mono ?_; rintro e w' ⟨rfl, rfl⟩)
      refine hn.mono ?_
      rintro e w2 ⟨rfl, hR2⟩
      have hr := hR2.raw 3500
      rw [hB] at hr
      clear hn hR2 hmore hB
      go_wp2_with fail
      refine hr.mono ?_
      rintro e w5 ⟨vd, L1, rfl, ⟨vr, hO5, hp5⟩, hpd⟩
      have hdn : ∃ a c, vd = .slice a B.1.length c := by
        obtain ⟨a, c, h, _⟩ := hpd
        exact ⟨a, c, h⟩
      obtain ⟨va, vc, rfl⟩ := hdn
      have HO5 := Lib.hid hO5
      have Hp5 := Lib.hid hp5
      have Hpd := Lib.hid hpd
      have hfr := free_any (HT.out.at_.inWorld hO5) A.1
      have c2 := (HT.out.at_.inWorld hO5).at0.2.2
      clear hr hO5 hp5 hpd
      cases hf : freeT T A.1 with
      | false =>
        rw [hf] at hfr
        have HF := Lib.hid (show LoadAt w0 t next K r zs bad false w5 from ⟨S, L1 ++ M, T, ⟨v, (rows_between HO5.out).tail, Hpv.out.mono fun x hx => List.mem_append_right _ hx⟩, HT.out.mono (fun b x _ hx => hx) (fun _ _ h => h.mono fun x hx => List.mem_append_right _ hx), Hp.out, Hnx.out⟩)
        clear HO5 Hp5 Hpd HT Hp Hnx c2 hf
        go_wp2_with (go_at_call 77; refine hfr.mono ?_; rintro e w' ⟨rfl, rfl⟩)
        go_ret
        exact ⟨_, rfl, HF.out⟩
      | true =>
        rw [hf] at hfr
        have hf2 := hf
        unfold freeT at hf2
        have hf3 : (decide (1 < A.1) = true ∧ decide (A.1 < T.next) = true) ∧ (look T.nodes A.1).isNone = true := by simpa using hf2
        have hno : look T.nodes A.1 = none := Option.isNone_iff_eq_none.1 hf3.2
        obtain ⟨o, S', T', hup, hO6, H6, hp6, hx6⟩ := add_loaded HO5.out (HT.out.mono (D2 := Pc (rowR r2 vr B.2.2 :: (L1 ++ rowR r v bad :: M))) (fun b x _ hx => hx) (fun _ _ h => h.mono fun x hx => List.mem_cons_of_mem _ (List.mem_append_right _ (List.mem_cons_of_mem _ hx)))) hno (of_decide_eq_true hf3.1.1) (of_decide_eq_true hf3.1.2) (Hpd.out.mono fun x hx => List.mem_cons_of_mem _ (List.mem_append_left _ hx)) Hp.out hK0
        have hRd : Rd2 ⟨w0, S'⟩ (setBlock (w5.alloc (.cells #[.map none, .slice va B.1.length vc, .int .i64 0] 86)) T.bm o) (L1 ++ M) r2 B.2.1 B.2.2 r zs bad :=
          ⟨vr, v, rows_between hO6, Hp5.out.keep (fun x hx he => by
            rcases List.mem_append.1 hx with hx | hx
            · exact List.mem_append_left _ hx
            · rcases List.mem_cons.1 hx with rfl | hx
              · exact (rowR_not he).elim
              · exact List.mem_append_right _ hx), Hpv.out.mono fun x hx => List.mem_append_right _ hx⟩
        have Hl6 := Lib.hid (hRd.left ⟨w0, []⟩ [])
        have HF := Lib.hid (show FRel w0 t next K r2 r zs bad B.2.1.length _ from ⟨S', L1 ++ M, T', _, _, hRd, H6.between, hp6, hx6.trans Hnx.out, rfl⟩)
        clear HO5 Hp5 Hpd HT Hp Hnx hO6 H6 hp6 hx6 hRd hf hf2 hf3 hno
        go_wp2_with (go_at_call 77; refine hfr.mono ?_; rintro e w' ⟨rfl, rfl⟩)
        go_roundw
        case rel => exact ⟨_, HF.out⟩
        case measure => rw [Hl6.out, Hleft.out]; exact Hlt.out
end Go.Proofs.YtdjoahhcmkedhaaGreatDoor
end

/- loadDir. -/
section
namespace Go.Proofs.YtdjoahhcmkedhaaGreatDoor
open Go.RowKit
open Go.ChangeMaps (setBlock)
set_option linter.unusedVariables false
set_option linter.unusedSimpArgs false
set_option maxRecDepth 100000

theorem strOf_size (zs : List Int) : (strOfNums zs).size = zs.length := by
  unfold strOfNums
  show (List.map _ zs).toArray.size = _
  simp
theorem bodP_most {most : Int} {zs : List Int} {bad : Bool} (hz : Byts zs) (h0 : 0 ≤ most) : ((bodP most zs bad).1.length : Int) ≤ most := by
  unfold bodP
  split
  · rename_i hs
    have := bodyOf_length zs most hs hz
    have h2 := hs.2.1
    show ((bodyOf zs).length : Int) ≤ most
    omega
  · exact h0
theorem bodP_sum {most : Int} {zs : List Int} {b1 b2 : Bool} : (bodP most zs b1).1.length + (bodP most zs b2).2.1.length ≤ zs.length := by
  unfold bodP
  by_cases hs : isSized zs most
  · rw [if_pos hs, if_pos hs]
    show (bodyOf zs).length + (restOf zs).length ≤ _
    unfold bodyOf restOf
    have : ((zs.drop 4).take (num4 zs).toNat).length + ((zs.drop 4).drop (num4 zs).toNat).length = (zs.drop 4).length := by
      rw [← List.length_append, List.take_append_drop]
    rw [this, List.length_drop]
    omega
  · rw [if_neg hs, if_neg hs]; simp
/-- A directory that is loaded: what of its list is left. -/
def DRel (w0 : World) (M : List Rw) (t : Nat) (next K : Int) (n0 : Nat) (j : Int) (b k : Nat) (r2 r : Nat) (zs : List Int) (bad : Bool) (wr : World) : Prop :=
  ∃ S T ys b2 nd, Rd2 ⟨w0, S⟩ wr M r2 ys b2 r zs bad ∧ Tree S (Pc M) t T ∧ PlT T (K + ((n0 - ys.length : Nat) : Int)) ∧ ys.length ≤ n0 ∧ At T j nd k ∧ nd.b = b ∧ T.next = next
theorem Tree.two {S : Blocks} {M : List Rw} {r2 r : Nat} {v2 v : Value} {b2 b : Bool} {t : Nat} {T : Tr} (H : Tree S (Pc M) t T) : Tree S (Pc (rowR r2 v2 b2 :: rowR r v b :: M)) t T := H.mono (fun b x _ hx => hx) (fun _ _ h => h.mono fun x hx => List.mem_cons_of_mem _ (List.mem_cons_of_mem _ hx))
theorem Tree.untwo {S : Blocks} {M : List Rw} {r2 r : Nat} {v2 v : Value} {b2 b : Bool} {t : Nat} {T : Tr} (H : Tree S (Pc (rowR r2 v2 b2 :: rowR r v b :: M)) t T) : Tree S (Pc M) t T := H.rows fun x hx he => by
  rcases List.mem_cons.1 hx with rfl | hx
  · exact (rowR_not he).elim
  · rcases List.mem_cons.1 hx with rfl | hx
    · exact (rowR_not he).elim
    · exact hx
def DirAt (w0 : World) (t : Nat) (next K : Int) (r : Nat) (n : Nat) (e : Ending) (w' : World) : Prop :=
  ∃ (b : Bool) (S : Blocks) (M : List Rw) (T : Tr) (zs : List Int) (bad : Bool), e = .returned (.bool b) ∧ Rd ⟨w0, S⟩ w' M r zs bad ∧ Tree S (Pc M) t T ∧ zs.length < n ∧ PlT T (K + ((n - zs.length : Nat) : Int)) ∧ T.next = next
set_option maxHeartbeats 2000000 in
theorem loadDir_any {w0 w : World} {S : Blocks} {M : List Rw} {t : Nat} {T : Tr} {r : Nat} {zs : List Int} {bad : Bool} (hR : Rd ⟨w0, S⟩ w M r zs bad) (H : Tree S (Pc M) t T) {K : Int} (hp : PlT T K) (hK0 : 0 ≤ K) (hK : K + zs.length ≤ 900000000) (hz : 0 < zs.length) :
    Calls Tryz.prog 55 #[.pointer (some ⟨t, 0, none⟩), .pointer (some ⟨r, 0, none⟩)] w (DirAt w0 t T.next K r zs.length) := by
  have hlen1 := numP_len 2147483647 zs bad
  obtain ⟨A, hA⟩ : ∃ A, numP 2147483647 zs bad = A := ⟨_, rfl⟩
  have hlen2 := bodP_sum (most := 16777216) (zs := A.2.1) (b1 := false) (b2 := A.2.2)
  obtain ⟨B, hB⟩ : ∃ B, bodP 16777216 A.2.1 A.2.2 = B := ⟨_, rfl⟩
  obtain ⟨C, hC⟩ : ∃ C, bodP 16777216 A.2.1 false = C := ⟨_, rfl⟩
  rw [hA] at hlen1
  rw [hB, hC] at hlen2
  have hgen : ∀ w2, Rd ⟨w0, S⟩ w2 M r A.2.1 A.2.2 → w2.cell? ⟨t, 2, none⟩ = some (.map (some T.bm)) ∧ (Instr.lookup 73 (.map (some T.bm)) (.int .i64 A.1) false).run Tryz.prog w2 = .ok (ptrOf (look T.nodes A.1)) w2 ∧
      Calls Tryz.prog 54 #[.pointer (some ⟨r, 0, none⟩)] w2 (fun e w3 => ∃ r2, e = .returned (.pointer (some ⟨r2, 0, none⟩)) ∧ Rd2 ⟨w0, S⟩ w3 M r2 C.1 C.2.2 r B.2.1 B.2.2) := fun w2 h2 => by
    have hT := H.at_.inWorld h2.own
    have hl := h2.list
    rw [hB, hC] at hl
    exact ⟨hT.at0.2.2, hT.look A.1, hl⟩
  have hgen3 : ∀ w3 r2, Rd2 ⟨w0, S⟩ w3 M r2 C.1 C.2.2 r B.2.1 B.2.2 → w3.cell? ⟨t, 2, none⟩ = some (.map (some T.bm)) ∧ (Instr.lookup 73 (.map (some T.bm)) (.int .i64 A.1) false).run Tryz.prog w3 = .ok (ptrOf (look T.nodes A.1)) w3 := fun w3 r2 h3 => by
    have hT := H.at_.inWorld h3.outer.own
    exact ⟨hT.at0.2.2, hT.look A.1⟩
  have hn := hR.num 2147483647
  rw [hA] at hn
  have hnd := (show Rd ⟨w0, S⟩ w.drew M r zs bad from hR.later (Below.refl _ w).drew).num 2147483647
  rw [hA] at hnd
  have c0 := (H.at_.inWorld hR.own).at0.2.2
  have c0d : w.drew.cell? ⟨t, 2, none⟩ = some (.map (some T.bm)) := c0
  have HT := Lib.hid H
  have Hp := Lib.hid hp
  have Hgen := Lib.hid hgen
  have Hgen3 := Lib.hid hgen3
  have Hbz := Lib.hid (show B.2.1.length < zs.length ∧ C.1.length + B.2.1.length ≤ zs.length from ⟨by omega, by omega⟩)
  obtain ⟨next, hnx⟩ : ∃ next, T.next = next := ⟨_, rfl⟩
  rw [hnx]
  have Hnx := Lib.hid hnx
  obtain ⟨lk, hlk⟩ : ∃ lk, look T.nodes A.1 = lk := ⟨_, rfl⟩
  rw [hlk] at Hgen Hgen3
  have Hlk := Lib.hid hlk
  have HK := Lib.hid (show 0 ≤ K ∧ K + zs.length ≤ 900000000 from ⟨hK0, hK⟩)
  have Hbyt := Lib.hid (show True from trivial)
  clear hR H hp hgen hgen3 hlen1 hlen2 hA hB hC hnx hlk hz hK0 hK
  go_enter Tryz.func55, Tryz.ntmps55
  go_wp2_with fail
  go_region_held3 (fun w' : World => w'.cell? ⟨t, 2, none⟩ = some (.map (some T.bm))) (first | exact c0 | exact c0d | exact c2 | exact c3) (first
    | (go_at_call 44; (first | refine hnd.mono ?_ | refine hn.mono ?_); rintro e w2 ⟨rfl, hR2⟩; obtain ⟨c2, hl2, hlist⟩ := Hgen.out w2 hR2; obtain ⟨c2d, hl2d, hlistd⟩ := Hgen.out w2.drew (hR2.later (Below.refl _ w2).drew); clear hR2)
    | (go_at_call 54; (first | refine hlist.mono ?_ | refine hlistd.mono ?_); rintro e w3 ⟨r2, rfl, hR3⟩; obtain ⟨c3, hl3⟩ := Hgen3.out w3 r2 hR3; have HR3 := Lib.hid hR3; clear hR3))
  all_goals (clear hn hnd c0 c0d Hgen Hgen3 hl2 hl2d hl3 hlist hlistd c2 c2d)
  all_goals (
    have hno : ∀ e, e = .returned (.bool false) → DirAt w0 t next K r zs.length e w3 := fun e he => ⟨false, S, M, T, _, _, he, HR3.out.outer, HT.out, Hbz.out.1, Hp.out.mono (by have := Hbz.out.1; omega), Hnx.out⟩
    have Hno := Lib.hid hno
    clear hno
    cases lk with
    | none =>
      dsimp only [ptrOf]
      clear HT Hp Hnx HR3 Hlk HK Hbz c3
      go_wp2_with fail
      go_ret
      exact Hno.out _ rfl
    | some f =>
      dsimp only [ptrOf]
      have hdir := dir_any ((HT.out.at_.inWorld HR3.out.outer.own).node _ (look_mem Hlk.out))
      cases hk : f.k with
      | none =>
        rw [hk] at hdir
        dsimp only [Option.isSome_none] at hdir
        clear HT Hp Hnx HR3 Hlk HK Hbz c3 hk
        go_wp2_with (go_at_call 58; refine hdir.mono ?_; rintro e w' ⟨rfl, rfl⟩)
        go_ret
        exact Hno.out _ rfl
      | some k =>
        rw [hk] at hdir
        dsimp only [Option.isSome_some] at hdir
        have HD0 := Lib.hid (show DRel w0 M t next K C.1.length A.1 f.b k r2 r B.2.1 B.2.2 w3 from ⟨S, T, C.1, C.2.2, f, HR3.out, HT.out, Hp.out.mono (by omega), Nat.le_refl _, ⟨Hlk.out, hk⟩, rfl, Hnx.out⟩)
        clear HT Hp Hnx HR3 Hlk c3 hk Hno
        go_wp2_with (go_at_call 58; refine hdir.mono ?_; rintro e w' ⟨rfl, rfl⟩)
        clear hdir
        generalize f.b = fb at *
        go_loopw [] (fun wr => DRel w0 M t next K C.1.length A.1 fb k r2 r B.2.1 B.2.2 wr) (fun wr => leftU ⟨w0, []⟩ [] r2 wr)
        case atStart => exact HD0.out
        case round =>
          obtain ⟨S5, T5, ys, b5, nd, hR, H5, hp5, hle, ha, hb, hnx⟩ := hrel
          have Hleft := Lib.hid (hR.left ⟨w0, []⟩ [])
          have HR := Lib.hid hR
          have HT := Lib.hid H5
          have Hp := Lib.hid hp5
          have Hle := Lib.hid hle
          have Ha := Lib.hid ha
          have Hb := Lib.hid hb
          have Hnx := Lib.hid hnx
          obtain ⟨v, hpv, hRi⟩ := hR.inner
          have hmore := hRi.more
          clear hR H5 hp5 hle ha hb hnx
          rcases Nat.eq_zero_or_pos ys.length with h0 | h0
          · rw [decide_eq_false (by omega)] at hmore
            have hgood := hRi.good
            have HF := Lib.hid (show ∀ e, e = .returned (.bool (!b5)) → DirAt w0 t next K r zs.length e wr from fun e he => ⟨_, S5, M, T5, _, _, he, HR.out.outer, HT.out, Hbz.out.1, Hp.out.mono (by have := Hbz.out.2; omega), Hnx.out⟩)
            clear hRi hpv h0 HR HT Hp Hnx Ha Hb Hle HK Hbz
            go_wp2_with (first
              | (go_at_call 43; refine hmore.mono ?_; rintro e w' ⟨rfl, rfl⟩)
              | (go_at_call 78; refine hgood.mono ?_; rintro e w' ⟨rfl, rfl⟩))
            go_ret
            exact HF.out _ rfl
          · rw [decide_eq_true h0] at hmore
            have hyb := hRi.byts
            have hl1 := bodP_len 12 ys b5
            have hl3 := bodP_most (most := 12) (bad := b5) hyb (by decide)
            have ht := hRi.text 12
            obtain ⟨D, hD⟩ : ∃ D, bodP 12 ys b5 = D := ⟨_, rfl⟩
            rw [hD] at ht hl1 hl3
            have hl2 := numP_len 2147483647 D.2.1 D.2.2
            obtain ⟨E, hE⟩ : ∃ E, numP 2147483647 D.2.1 D.2.2 = E := ⟨_, rfl⟩
            rw [hE] at hl2
            have Hlt := Lib.hid (show E.2.1.length < ys.length by omega)
            have Hns := Lib.hid (show (strOfNums D.1).size ≤ maxLen from by rw [strOf_size]; unfold maxLen; omega)
            have Hpv := Lib.hid hpv
            clear hRi hpv hl1 hl2 hl3 hD h0 HR hyb
            go_wp2_with (go_at_call 43; refine hmore.mono ?_; rintro e w' ⟨rfl, rfl⟩)
            refine ht.mono ?_
            rintro e w4 ⟨rfl, hR4⟩
            have hn := hR4.num 2147483647
            rw [hE] at hn
            clear ht hR4 hmore hE
            go_wp2_with fail
            refine hn.mono ?_
            rintro e w5 ⟨rfl, v2, hO5, hp5⟩
            have hp5' : Pc M v2 E.2.1 := hp5.keep fun x hx he => by
              rcases List.mem_cons.1 hx with rfl | hx
              · exact (rowR_not he).elim
              · exact hx
            have hkid := kid_all hO5 HT.out.two Hp.out (by have := HK.out.1; omega) (by have := HK.out; have := Hbz.out; have := Hle.out; omega) Ha.out (strOfNums D.1) Hns.out E.1
            dsimp only [argA] at hkid
            rw [Hb.out, Hnx.out] at hkid
            have Hp5 := Lib.hid hp5'
            clear hn hO5 hp5 hp5' HT Hp Ha Hnx Hb
            go_wp2_with fail
            refine hkid.mono ?_
            rintro e w6 ⟨bb, S6, T6, nd6, rfl, hO6, H6, hp6, ha6, hb6, hn6⟩
            have hRd : Rd2 ⟨w0, S6⟩ w6 M r2 E.2.1 E.2.2 r B.2.1 B.2.2 := ⟨v2, v, hO6, Hp5.out, Hpv.out⟩
            have Hl6 := Lib.hid (hRd.left ⟨w0, []⟩ [])
            cases bb with
            | false =>
              have HF := Lib.hid (show DirAt w0 t next K r zs.length (.returned (.bool false)) w6 from ⟨false, S6, M, T6, _, _, rfl, hRd.outer, H6.untwo, Hbz.out.1, hp6.mono (by have := Hbz.out.2; have := Hlt.out; have := Hle.out; omega), hn6⟩)
              clear hkid hO6 H6 hp6 ha6 hb6 hn6 hRd
              go_wp2_with fail
              go_ret
              exact HF.out
            | true =>
              have HF := Lib.hid (show DRel w0 M t next K C.1.length A.1 fb k r2 r B.2.1 B.2.2 w6 from ⟨S6, T6, _, _, nd6, hRd, H6.untwo, hp6.mono (by have := Hlt.out; have := Hle.out; omega), by have := Hlt.out; have := Hle.out; omega, ha6, hb6, hn6⟩)
              clear hkid hO6 H6 hp6 ha6 hb6 hn6 hRd
              go_wp2_with fail
              go_roundw
              case rel => exact HF.out
              case measure => rw [Hl6.out, Hleft.out]; exact Hlt.out)
end Go.Proofs.YtdjoahhcmkedhaaGreatDoor
end

/- slices.Concat of slices of bytes: as that of parts. -/
section
namespace Go.Proofs.YtdjoahhcmkedhaaGreatDoor
open Go.RowKit
set_option linter.unusedVariables false
set_option linter.unusedSimpArgs false
set_option maxRecDepth 100000

/-- slices.Grow of nil. -/
theorem grow_zeroB (w : World) : Calls Tryz.prog 76 #[.slice none 0 0, .int .i64 0] w fun e w' => e = .returned (.slice none 0 0) ∧ w = w' := by
  go_enter Tryz.func76, Tryz.ntmps76
  go_wp2_with fail
  go_ret
  exact ⟨rfl, rfl⟩
theorem grow_posB (n : Nat) (w : World) (h0 : 0 < n) (h1 : n ≤ 140737488355328) : Calls Tryz.prog 76 #[.slice none 0 0, .int .i64 (n : Int)] w fun e w' => ∃ v, e = .returned v ∧ Own w w' [rowU v []] := by
  obtain ⟨i0, hi, hz0, hz1, hz2⟩ := info_parts info_u
  have hrz : ∀ ty, (Builtin.append_ #[36, 3] ty #[.slice none 0 0, .int .i64 (n : Int)]).run Tryz.prog w =
      .ok (.slice (some ⟨w.heap.size, 0, none⟩) n (grownCap w n 0 5)) (w.drew.alloc (.cells (#[] ++ Builtin.zeroCells (Value.int .u8 0).cells n ++ Builtin.zeroCells (Value.int .u8 0).cells (grownCap w n 0 5 - n)) 5)) := fun ty => by
    have h := Lib.run_append_grow_zeros w 36 3 ty 5 i0 (.int .u8 0) .i64 .i64 Tryz.underlying36 Tryz.underlying3 hi hz0 none 0 0 [] (run_firstCells_none w.drew i0.size 0 0 0) n h0 (by omega) (by omega) (by omega) (by rw [hz2]; omega) (growslice_fits (by omega) (by rw [hz2]; omega))
    simpa using h
  have hge : n ≤ grownCap w n 0 5 := grownCap_ge w _ _ _
  have hle : grownCap w n 0 5 ≤ maxLen := grownCap_le_maxLen w n 0 _ (by unfold maxLen; omega)
  obtain ⟨G, hG⟩ : ∃ G, G = grownCap w n 0 5 := ⟨_, rfl⟩
  rw [← hG] at hrz hge hle
  have hO := World.ownsRow_made (base := w.heap.size) (e := 5) (size := 1) w.drew (#[] ++ Builtin.zeroCells (Value.int .u8 0).cells n ++ Builtin.zeroCells (Value.int .u8 0).cells (G - n)) G (Nat.le_refl _) hle (by simp [Builtin.zeroCells, Value.cells]; omega)
  generalize (#[] ++ Builtin.zeroCells (Value.int .u8 0).cells n ++ Builtin.zeroCells (Value.int .u8 0).cells (G - n)) = C at *
  have hO2 : Own w (w.drew.alloc (.cells C 5)) [rowU (.slice (some ⟨w.heap.size, 0, none⟩) 0 G) []] := ⟨(Own.start w).drew.alloc (.cells C 5) |>.below, fun p hp => by rw [List.mem_singleton.1 hp]; exact hO, List.pairwise_singleton _ _, (fun m hm => by cases hm), (fun m hm => by cases hm)⟩
  have HO := Lib.hid hO2
  have hG63 : G ≤ 9223372036854775807 := by unfold maxLen at hle; omega
  clear hG hO hO2 hle
  go_enter Tryz.func76, Tryz.ntmps76
  go_wp2_with (at_builtin; refine Lib.wpList_append_run _ rfl _ _ _ _ rfl _ _ rfl rfl _ _ (hrz _) ?_)
  go_ret
  exact ⟨_, rfl, HO.out⟩

set_option maxHeartbeats 1600000 in
theorem concat_anyB (a : Option Addr) (c : Nat) (PS : List (Value × List Int)) (w : World) (hP : Parts w a PS) (hn : PS.length ≤ maxLen) (hl : (allOf PS).length ≤ 140737488355328) :
    Calls Tryz.prog 52 #[.slice a PS.length c] w fun e w' => ∃ v, e = .returned v ∧ Own w w' [rowU v (allOf PS)] := by
  unfold maxLen at hn
  have HP := Lib.hid hP
  have Hl := Lib.hid hl
  clear hP hl
  go_enter Tryz.func52, Tryz.ntmps52
  go_wp2_with fail
  go_loop [3, 11] (fun t i => ∃ k : Nat, k ≤ PS.length ∧ i = .int .i64 k ∧ t = .int .i64 ((allOf (PS.take k)).length : Int)) (fun _ i => PS.length - (intOf i).toNat)
  case atStart => exact ⟨0, Nat.zero_le _, rfl, rfl⟩
  case round =>
    obtain ⟨k, hk, rfl, rfl⟩ := hrel
    by_cases hlt : k < PS.length
    · obtain ⟨g, o, rfl, hc, _, _, ga, gc, hv, hv1, hv2⟩ := HP.out k hlt
      have HS := Lib.hid (congrArg List.length (allOf_take_succ PS k hlt))
      have hs1 := allOf_take_le PS k
      have hs2 := allOf_take_le PS (k + 1)
      have hs3 : (allOf (PS.take (k + 1))).length = (allOf (PS.take k)).length + (PS[k].2).length := by rw [HS.out, List.length_append]
      have hs4 : (((allOf (PS.take k)).length : Nat) : Int) + (((PS[k].2).length : Nat) : Int) ≤ 140737488355328 := by have := Hl.out; omega
      have HS3 := Lib.hid hs3
      rw [hv] at hc
      clear hs3 hv
      generalize (allOf (PS.take k)).length = m at *
      generalize (PS[k].2).length = m2 at *
      go_wp2_with fail
      exact ⟨⟨k + 1, by omega, by go_num, by rw [HS3.out]; go_num⟩, by simp [intOf]; omega⟩
    · obtain rfl : k = PS.length := by omega
      have hl := Hl.out
      have HT := Lib.hid (show allOf (PS.take PS.length) = allOf PS by rw [List.take_length])
      rw [HT.out]
      obtain ⟨i0, hi, hz0, hz1, hz2⟩ := info_parts info_u
      have hm0 : (0 : Int) ≤ ((allOf PS).length : Int) := by omega
      clear HT
      obtain ⟨n, hn2⟩ : ∃ n, (allOf PS).length = n := ⟨_, rfl⟩
      rw [hn2] at hm0 hl ⊢
      have Hn2 := Lib.hid hn2
      clear hn2
      go_wp2_with fail
      refine (show Calls Tryz.prog 76 #[.slice none 0 0, .int .i64 (n : Int)] w fun e w' => ∃ v, e = .returned v ∧ Own w w' [rowU v []] from ?_).mono ?_
      · rcases Nat.eq_zero_or_pos n with h0 | h0
        · rw [h0]; exact (grow_zeroB w).mono fun e w' ⟨h1, h2⟩ => ⟨_, h1, h2 ▸ (Own.start w).nil _ _⟩
        · exact grow_posB n w h0 hl
      rintro e w1 ⟨v, rfl, hO1⟩
      have HO1 := Lib.hid hO1
      obtain ⟨va, vc, rfl, _, _⟩ := Own.sized (h := hO1)
      clear hO1
      go_wp2_with fail
      go_loopw [6, 27] (fun t i wr => ∃ k : Nat, k ≤ PS.length ∧ i = .int .i64 k ∧ Own w wr [rowU t (allOf (PS.take k))]) (fun _ i _ => PS.length - (intOf i).toNat)
      case atStart => exact ⟨0, Nat.zero_le _, rfl, HO1.out⟩
      case round =>
        obtain ⟨k, hk, rfl, hO⟩ := hrel
        by_cases hlt : k < PS.length
        · obtain ⟨g, o, rfl, hc, hy⟩ := (HP.out.later hO.below) k hlt
          have hys := hy.1
          have HS := Lib.hid (allOf_take_succ PS k hlt)
          have hs2 := allOf_take_le PS (k + 1)
          have hs3 : (allOf (PS.take (k + 1))).length = (allOf (PS.take k)).length + (PS[k].2).length := by rw [HS.out, List.length_append]
          have hsum : (allOf (PS.take k)).length + (PS[k].2).length ≤ 140737488355328 := by have := Hl.out; omega
          have Hsum := Lib.hid hsum
          have HO := Lib.hid hO
          have Hys := Lib.hid hys
          clear hs2 hs3 hO hy hys hsum
          generalize PS[k].2 = zk at *
          generalize PS[k].1 = vk at *
          go_wp2_with (at_builtin; refine wpList_append_src rfl (.tmp 31) (.tmp 32) 36 rfl _ (allOf (PS.take k)).length (bs (allOf (PS.take k))) vk zk.length (bs zk) rfl rfl HO.out i0 (.int .u8 0) 1 Tryz.underlying36 hi hz0 hz1 hz2 rfl (by decide) Hys.out (by rw [bs_length, Nat.mul_one]) (by have := Hsum.out; unfold maxLen; omega) (by have := Hsum.out; omega) ?_)
          intro v' w' hO'
          rw [← bs_append, ← HS.out] at hO'
          have HO' := Lib.hid (show Own w w' [rowU v' (allOf (PS.take (k + 1)))] by unfold rowU; rw [HS.out, List.length_append, ← HS.out]; exact hO')
          clear hO' Hsum
          go_wp2_with fail
          exact ⟨⟨k + 1, by omega, by go_num, HO'.out⟩, by simp [intOf]; omega⟩
        · obtain rfl : k = PS.length := by omega
          rw [List.take_length] at hO
          have HO := Lib.hid hO
          clear hO
          go_wp2_with fail
          go_ret
          exact ⟨_, rfl, HO.out⟩


end Go.Proofs.YtdjoahhcmkedhaaGreatDoor
end

/- The document's example, on plain data. -/
section
namespace Go.Proofs.YtdjoahhcmkedhaaGreatDoor
open Go.RowKit
set_option linter.unusedVariables false
set_option linter.unusedSimpArgs false
set_option maxRecDepth 100000

def E0 (q : Int) : Et := ⟨q, 2, [(1, ⟨true, [], [], 0⟩)]⟩
theorem new_rep (b : Nat) (q : Int) : Rep (newT b q) (E0 (max q 0)) := ⟨rfl, rfl, List.Perm.refl _⟩
def one : List Int := [111, 110, 101]
def two : List Int := [116, 119, 111]
/-- /a, /a/f, /g, /h -/
def pA : List UInt8 := [47, 97]
def pAF : List UInt8 := [47, 97, 47, 102]
def pG : List UInt8 := [47, 103]
def pH : List UInt8 := [47, 104]
def pB : List UInt8 := [47, 98]
def EA1 : Et := ⟨10, 4, [(1, ⟨true, [(toB [97], 2), (toB [103], 3)], [], 0⟩), (2, ⟨true, [(toB [102], 3)], [], 0⟩), (3, ⟨false, [], one, 2⟩)]⟩
theorem alive1 : doAllE (E0 10) [⟨0, pA, [], []⟩, ⟨2, pAF, [], one⟩, ⟨4, pAF, pG, []⟩] = some EA1 := by rfl
def EA2 : Et := ⟨10, 5, [(1, ⟨true, [(toB [97], 2), (toB [103], 3)], [], 0⟩), (2, ⟨true, [(toB [102], 4)], [], 0⟩), (3, ⟨false, [], one, 1⟩), (4, ⟨false, [], two, 1⟩)]⟩
theorem alive2 : doAllE EA1 [⟨2, pH, [], two⟩, ⟨5, pH, pAF, []⟩] = some EA2 := by rfl
def EA3 : Et := ⟨10, 5, [(1, ⟨true, [(toB [97], 2)], [], 0⟩), (2, ⟨true, [(toB [102], 4)], [], 0⟩), (3, ⟨false, [], one, 0⟩), (4, ⟨false, [], two, 1⟩)]⟩
theorem alive3 : doAllE EA2 [⟨6, pG, [], []⟩] = some EA3 := by rfl
end Go.Proofs.YtdjoahhcmkedhaaGreatDoor
end

/- Numbers in order. -/
section
namespace Go.Proofs.YtdjoahhcmkedhaaGreatDoor
open Go.RowKit
open Go.ChangeMaps (setBlock)
open Go.Sort
set_option linter.unusedVariables false
set_option linter.unusedSimpArgs false
set_option maxRecDepth 100000

def rowI (v : Value) (zs : List Int) : Rw := ⟨3, 1, v, zs.length, zs.map (Value.int .i64)⟩
theorem sort_row {W0 : Base} {w : World} {L : List Rw} {v : Value} {zs : List Int} (h : Own W0 w (rowI v zs :: L)) (hl : zs.length < 4611686018427387904) :
    Calls Tryz.prog 60 #[v] w fun e w' => e = .returned (.tuple #[]) ∧ Own W0 w' (rowI v (zs.mergeSort fun x y => decide (x ≤ y)) :: L) := by
  have h' : Own W0 w (⟨3, 1, v, zs.length, zs.map (Value.int .i64)⟩ :: L) := h
  have hown : w.ownsRow W0.world.heap.size 3 1 v zs.length (zs.map (Value.int .i64)) := h.head
  have hsl : (zs.mergeSort fun x y => decide (x ≤ y)).length = zs.length := List.length_mergeSort _
  rcases hown.2 with ⟨hv, hn⟩ | ⟨g, cap, cur, hv, hg, hb, hn, hcap, hsz, htk⟩
  · have hz : zs = [] := List.eq_nil_of_length_eq_zero hn
    subst hz
    rw [hv]
    refine (Tryz.slices_Sort_int_none none 0 w).mono ?_
    rintro e w' ⟨rfl, rfl⟩
    refine ⟨rfl, ?_⟩
    rw [hv] at h
    simpa using h
  · have hv2 : v = .slice (some ⟨g, 0, none⟩) zs.length cap := hv
    have hH : Holds (Value.int .i64) w g 0 zs.toArray := holds_of_blockI hb (by rw [Nat.mul_one] at htk; exact htk)
    have hlt : g < w.heap.size := lt_of_heap hb
    rw [hv2]
    refine (Tryz.slices_Sort_int g 0 cap zs w hH hlt hl).mono ?_
    rintro e w' ⟨rfl, n, os, rfl⟩
    refine ⟨rfl, ?_⟩
    have hrow := ownsRow_sortedI (n := n) (os := os) hsl hg hb hn hcap hsz
    rw [hv2] at h'
    have hres := Own.grown (h := h') (by rw [← hsl] at hrow; exact hrow) (grownBy_sortedI _) (.inl (by rw [hsl]))
    unfold rowI
    rw [hsl]
    rw [hsl] at hres
    exact hres
end Go.Proofs.YtdjoahhcmkedhaaGreatDoor
end

/- Loose. -/
section
namespace Go.Proofs.YtdjoahhcmkedhaaGreatDoor
open Go.RowKit
open Go.ChangeMaps (setBlock)
set_option linter.unusedVariables false
set_option linter.unusedSimpArgs false
set_option maxRecDepth 100000

def looseL (l : List (Int × Nd)) : List Int := (l.filter fun p => p.2.loose).map (·.1)
theorem looseL_snoc (l : List (Int × Nd)) (p : Int × Nd) : looseL (l ++ [p]) = looseL l ++ (if p.2.loose then [p.1] else []) := by
  unfold looseL
  rw [List.filter_append, List.map_append]
  cases h : p.2.loose <;> simp [h]
theorem looseL_len (l : List (Int × Nd)) : (looseL l).length ≤ l.length := by
  unfold looseL
  rw [List.length_map]
  exact List.length_filter_le _ _
theorem info_i : (Tryz.prog.info? 3).map (fun i => (i.zero, i.size, i.bytes)) = some (some (.int .i64 0), 1, 8) := by kernel_rfl
def LooseRel (w : World) (T : Tr) (v : Value) (wr : World) : Prop :=
  ∃ oi o done left, WalksR w w.heap.size T oi o done left wr ∧ Own ⟨w, [(w.heap.size, oi)]⟩ wr [rowI v (looseL done)]
def LoosePost (w : World) (T : Tr) (e : Ending) (w' : World) : Prop := ∃ (v : Value) (zs : List Int), e = .returned v ∧ zs.Perm (looseL T.nodes) ∧ Own w w' [rowI v (zs.mergeSort fun x y => decide (x ≤ y))]
set_option maxHeartbeats 2000000 in
theorem loose_t {w : World} {D : Value → List Int → Prop} {t : Nat} {T : Tr} (H : TreeIn (inW w) D t T) (hn : T.nodes.length ≤ 4294967296) :
    Calls Tryz.prog 28 #[.pointer (some ⟨t, 0, none⟩)] w (LoosePost w T) := by
  obtain ⟨i0, hi, hz0, hz1, hz2⟩ := info_parts info_i
  obtain ⟨_, _, c2⟩ := H.at0
  obtain ⟨oi, o, hrun, hW⟩ := Walks.start H
  have hWR : WalksR w w.heap.size T oi o [] T.nodes (w.alloc oi) := ⟨hW.1, hW.2.1, hW.2.2.1, hW.2.2.2.1, hW.2.2.2.2, Nat.le_refl _⟩
  have HW := Lib.hid (show LooseRel w T (.slice none 0 0) (w.alloc oi) from ⟨oi, o, [], T.nodes, hWR, ((Own.start w).newB oi).nil 3 1⟩)
  have HH := Lib.hid H
  clear H hW hWR
  go_enter Tryz.func28, Tryz.ntmps28
  go_wp2_with fail
  go_loopw [3] (fun s wr => LooseRel w T s wr) (fun _ wr => leftN wr T.bm w.heap.size)
  case atStart => exact HW.out
  case round =>
    obtain ⟨oi2, o2, done, left, hW, hO⟩ := hrel
    have hle := hW.left_eq
    have hperm := hW.2.2.2.1
    have hlen2 : done.length ≤ 4294967296 := by have := hperm.length_eq; rw [List.length_append] at this; omega
    have hll : (looseL done).length ≤ 4294967296 := Nat.le_trans (looseL_len done) hlen2
    rcases hW.next with ⟨rfl, hnx⟩ | ⟨l1, l2, p, oi', w1, rfl, hw1, hnx, hW', hp, hen⟩
    · have hO2 : Own ⟨w, []⟩ wr [rowI u3 (looseL done)] := hO.forget (S' := []) (fun m hm => by cases hm)
      have hs := sort_row hO2 (by omega)
      have hper : (looseL done).Perm (looseL T.nodes) := by
        simp only [List.append_nil] at hperm
        exact (hperm.filter _).map _
      obtain ⟨fa, fc, hf, _, _⟩ := Own.sized (h := (show Own ⟨w, []⟩ wr (⟨3, 1, u3, (looseL done).length, (looseL done).map (Value.int .i64)⟩ :: []) from hO2))
      have HP := Lib.hid hper
      clear hW hle hperm hO hO2 hlen2 hll hper hrun
      subst hf
      go_wp2_with (go_at_call 60; refine hs.mono ?_; rintro e w3 ⟨rfl, hO3⟩; have HO3 := Lib.hid hO3; clear hO3)
      go_ret
      exact ⟨_, _, rfl, HP.out, HO3.out⟩
    · have hr : ∀ oi2, ((w.heap.size, oi2) : Nat × Obj) ∈ [(w.heap.size, oi2)] := fun _ => List.mem_cons_self ..
      have hO1 : Own ⟨w, [(w.heap.size, oi2)]⟩ w1 [rowI u3 (looseL done)] := by rcases hw1 with rfl | rfl; exact hO; exact hO.drew
      have hO2 : Own ⟨w, [(w.heap.size, oi')]⟩ (setBlock w1 w.heap.size oi') [rowI u3 (looseL done)] := by
        have := hO1.setB (hr _) oi'
        simpa [upd] using this
      have hN := (hW'.tree HH.out).node p hp
      have hlo := loose_any hN
      obtain ⟨e1, e2⟩ := hW'.entry
      have hent := hen _ e1 e2
      have hl2 := hW'.left_eq
      have hmeas : (l1 ++ l2).length < leftN wr T.bm w.heap.size := by rw [hle]; simp
      have hsn := looseL_snoc done p
      generalize hw2 : setBlock w1 w.heap.size oi' = w2 at *
      obtain ⟨fa, fc, hf, _, _⟩ := Own.sized (h := (show Own ⟨w, [(w.heap.size, oi')]⟩ w2 (⟨3, 1, u3, (looseL done).length, (looseL done).map (Value.int .i64)⟩ :: []) from hO2))
      have HN := Lib.hid hW'
      have hf' : u3 = .slice fa (looseL done).length fc := hf
      clear hf
      subst hf'
      rcases Bool.eq_false_or_eq_true p.2.loose with hlz | hlz
      · rw [hlz] at hlo hsn
        simp only [if_true] at hsn
        have hb1 : (looseL done).length + 1 ≤ maxLen := by unfold maxLen; omega
        have hb2 : ((looseL done).length + 1) * 8 ≤ 140737488355328 := by omega
        have HO2 := Lib.hid (show Own ⟨w, [(w.heap.size, oi')]⟩ (w2.alloc (.cells #[.int .i64 p.1] 3)) (⟨3, 1, .slice fa (looseL done).length fc, (looseL done).length, (looseL done).map (Value.int .i64)⟩ :: []) from hO2.alloc _)
        have hsrc : Src (w2.alloc (.cells #[.int .i64 p.1] 3)) (.slice (some ⟨w2.heap.size, 0, none⟩) 1 1) 1 [.int .i64 p.1] := by
          refine .inr ⟨_, _, rfl, fun j u hj => ?_, fun u hu => by rw [List.mem_singleton.1 hu]; rfl⟩
          rw [Addr.add_mid, Nat.zero_add, World.cell?_alloc_new]
          simpa using hj
        have Hsrc := Lib.hid hsrc
        have Hb1 := Lib.hid hb1
        have Hb2 := Lib.hid hb2
        have Hm := Lib.hid hmeas
        have Hsn := Lib.hid hsn
        clear hO hO1 hO2 hW hW' hle hperm hN e1 e2 hen hl2 hsn hsrc hb1 hb2 hmeas hll hlen2 hw1 hlz hw2 hrun
        go_wp2_with (first
          | (go_at_call 37; refine hlo.mono ?_; rintro e w' ⟨rfl, rfl⟩)
          | (at_builtin; refine wpList_append_src rfl (.tmp 18) (.tmp 20) 33 rfl (.slice fa (looseL done).length fc) (looseL done).length ((looseL done).map (Value.int .i64)) (.slice (some ⟨w2.heap.size, 0, none⟩) 1 1) 1 [.int .i64 p.1] rfl rfl HO2.out i0 (.int .i64 0) 8 Tryz.underlying33 hi hz0 hz1 hz2 rfl (by decide) Hsrc.out (by simp) Hb1.out Hb2.out ?_))
        intro v4 w4 hO4
        have HR := Lib.hid (show LooseRel w T v4 w4 ∧ leftN w4 T.bm w.heap.size < leftN wr T.bm w.heap.size from by
          have hO5 : Own ⟨w, [(w.heap.size, oi')]⟩ w4 [rowI v4 (looseL (done ++ [p]))] := by
            rw [Hsn.out]
            unfold rowI
            rw [List.length_append, List.map_append]
            exact hO4
          have hB : Below w.heap.size w w4 := hO4.below
          have hW4 : WalksR w w.heap.size T oi' o2 (done ++ [p]) (l1 ++ l2) w4 := ⟨hO4.at (List.mem_cons_self ..), HN.out.2.1, HN.out.2.2.1, HN.out.2.2.2.1, hB, Nat.le_refl _⟩
          exact ⟨⟨oi', o2, _, _, hW4, hO5⟩, by rw [hW4.left_eq]; exact Hm.out⟩)
        obtain ⟨a4, c4, hv4, _, _⟩ := Own.sized (h := hO4)
        subst hv4
        clear hO4 HO2 Hsrc Hb1 Hb2 Hm Hsn HN
        go_wp2_with fail
        go_roundw
        case rel => exact HR.out.1
        case measure => exact HR.out.2
      · rw [hlz] at hlo hsn
        simp only [Bool.false_eq_true, if_false, List.append_nil] at hsn
        have HX := Lib.hid (show LooseRel w T (.slice fa (looseL done).length fc) w2 from ⟨oi', o2, _, _, hW', by rw [hsn]; exact hO2⟩)
        have HL := Lib.hid (show leftN w2 T.bm w.heap.size < leftN wr T.bm w.heap.size by rw [hl2]; exact hmeas)
        clear hO hO1 hO2 hW hW' hle hperm hN e1 e2 hen hl2 hsn hmeas hll hlen2 hw1 hlz hw2 HN hrun
        go_wp2_with (go_at_call 37; refine hlo.mono ?_; rintro e w' ⟨rfl, rfl⟩)
        go_roundw
        case rel => exact HX.out
        case measure => exact HL.out
end Go.Proofs.YtdjoahhcmkedhaaGreatDoor
end

/- Load. -/
section
namespace Go.Proofs.YtdjoahhcmkedhaaGreatDoor
open Go.RowKit
open Go.ChangeMaps (setBlock)
set_option linter.unusedVariables false
set_option linter.unusedSimpArgs false
set_option maxRecDepth 100000

theorem nodup_len : ∀ (N : Nat) {l : List Int}, l.Nodup → (∀ x ∈ l, 1 ≤ x ∧ x ≤ N) → l.length ≤ N := by
  intro N
  induction N with
  | zero =>
    intro l _ h
    match l, h with
    | [], _ => exact Nat.le_refl _
    | x :: r, h => have := h x (List.mem_cons_self ..); omega
  | succ N ih =>
    intro l hd h
    have h1 := ih (l := l.erase ((N : Int) + 1)) (hd.erase _) fun x hx => by
      obtain ⟨h2, h3⟩ := (hd.mem_erase_iff).1 hx
      have := h x h3
      push_cast at this
      omega
    have h2 := List.length_erase (a := (N : Int) + 1) (l := l)
    split at h2 <;> omega
theorem Tree.setNext1 {S : Blocks} {D : Value → List Int → Prop} {t : Nat} {T : Tr} (H : Tree S D t T) (h1 : ∀ p ∈ T.nodes, p.1 = 1) (m : Int) : Tree (upd S t (.cells (treeCells { T with next := m }) 75)) D t { T with next := m } := by
  have ht : t ∉ T.foot := (List.nodup_cons.1 H.apart).1
  obtain ⟨o, g1, g2⟩ := H.at_.map
  refine ⟨⟨upd_same H.at_.cells _, ⟨o, upd_other (b := t) g1 (fun e => ht (e ▸ List.mem_cons_self ..)) _, g2⟩, fun p hp => ?_⟩, H.apart, ⟨H.good.keys, H.good.root, H.good.kids, fun p hp => ⟨(H.good.low p hp).1, .inl (h1 p hp)⟩⟩⟩
  exact (H.at_.node p hp).mono (fun b x hb hx => upd_other (b := t) hx (fun e => ht (e ▸ foot_mem hp hb)) _) (fun _ _ h => h)
def LRel (w0 : World) (t : Nat) (next : Int) (r n0 : Nat) (wr : World) : Prop :=
  ∃ S M T zs bad, Rd ⟨w0, S⟩ wr M r zs bad ∧ Tree S (Pc M) t T ∧ PlT T ((n0 - zs.length : Nat) : Int) ∧ zs.length ≤ n0 ∧ T.next = next
/-- What Load tells: none, or a tree of the law's. -/
def LoadedAt (w0 : World) (e : Ending) (w' : World) : Prop :=
  (e = .returned (.tuple #[.pointer none, .bool false]) ∧ Below w0.heap.size w0 w') ∨ ∃ t S M T, e = .returned (.tuple #[.pointer (some ⟨t, 0, none⟩), .bool true]) ∧ Own ⟨w0, S⟩ w' M ∧ Tree S (Pc M) t T
set_option maxHeartbeats 4000000 in
theorem load_any {w0 w : World} (hO : Own ⟨w0, []⟩ w []) (q : Int) (hq : (Lit.int .i64 q).wf = true) {a : Option Addr} {PS : List (Value × List Int)} (hP : Parts w0 a PS) (cap : Nat) (hn : PS.length ≤ maxLen) (hl : (allOf PS).length ≤ 1000000) :
    Calls Tryz.prog 22 #[.int .i64 q, .slice a PS.length cap] w (LoadedAt w0) := by
  have hnew := tnew_any (D := Pc []) hO (Pc.nil []) q hq
  have hby := hP.byts
  have HP := Lib.hid hP
  have Hby := Lib.hid hby
  have Hl := Lib.hid hl
  have Hn := Lib.hid hn
  clear hP hby hl hn hO
  go_enter Tryz.func22, Tryz.ntmps22
  go_wp2_with fail
  refine hnew.mono ?_
  rintro e w1 hnw
  obtain ⟨S1, rfl, hO1, H1, hk1⟩ := hnw
  have hcat := concat_anyB a cap PS w1 (HP.out.later hO1.below) Hn.out (by have := Hl.out; omega)
  have hroot : ∀ p ∈ (newT w.heap.size q).nodes, p.1 = 1 := fun p hp => by
    have : p = (1, newNd (w.heap.size + 1)) := by simpa [newT] using hp
    rw [this]
  have hpl0 : PlT (newT w.heap.size q) 0 := fun i n hi hn => by
    have : (i, n) = (1, newNd (w.heap.size + 1)) := by simpa [newT] using look_mem hi
    injection this with _ h2
    rw [h2] at hn; cases hn
  have HO1 := Lib.hid hO1
  have HT1 := Lib.hid H1
  have Hroot := Lib.hid hroot
  have Hpl0 := Lib.hid hpl0
  clear hnew hO1 H1 hk1 hroot hpl0
  generalize w.heap.size + 3 = t at *
  generalize newT w.heap.size q = T1 at *
  go_wp2_with fail
  refine hcat.mono ?_
  rintro e w2 ⟨v2, rfl, hO2⟩
  have hO2' := HO1.out.join hO2
  have hbv : By w2 v2 (allOf PS) := hO2.by Hby.out
  have hrd := rread_rd v2 (allOf PS) w2 hbv (by have := Hl.out; omega) _ _ hO2'
  have HO2 := Lib.hid hO2'
  obtain ⟨_, _, a2, c2, rfl, _, _⟩ := hbv
  clear hcat hO2 hO2'
  go_wp2_with fail
  refine hrd.mono ?_
  rintro e w3 ⟨r, L3, rfl, hR3⟩
  have hnum := hR3.num 2147483647
  have hlen0 := numP_len 2147483647 (allOf PS) false
  have hA1 : (numP 2147483647 (allOf PS) false).1 ≤ 2147483647 := by
    unfold numP
    split
    · rename_i h; exact h.2
    · decide
  obtain ⟨A, hA⟩ : ∃ A, numP 2147483647 (allOf PS) false = A := ⟨_, rfl⟩
  rw [hA] at hnum hlen0 hA1
  clear hrd hR3 hA
  go_wp2_with fail
  refine hnum.mono ?_
  rintro e w4 ⟨rfl, v4, hO4, hp4⟩
  have c1 : w4.cell? ⟨t, 1, none⟩ = some (.int .i64 T1.next) := (HT1.out.at_.inWorld hO4).at0.2.1
  have f1 : w4.frozen? ⟨t, 1, none⟩ = false := free_at (hO4.at HT1.out.at_.cells) 1
  have hO5 := hO4.storeB HT1.out.at_.cells 1 (.int .i64 A.1)
  have H5 := HT1.out.setNext1 Hroot.out A.1
  generalize hM5 : L3 ++ ([rowU (.slice a2 (allOf PS).length c2) (allOf PS)] ++ []) = M5 at *
  have hR5 : Rd ⟨w0, upd S1 t (.cells (treeCells { T1 with next := A.1 }) 75)⟩ (w4.setCell ⟨t, 1, none⟩ (.int .i64 A.1)) M5 r A.2.1 A.2.2 := ⟨v4, hO5, hp4⟩
  have hT5 : Tree (upd S1 t (.cells (treeCells { T1 with next := A.1 }) 75)) (Pc M5) t { T1 with next := A.1 } := H5.mono (fun b x _ hx => hx) (fun _ _ h => h.mono fun x hx => by cases hx)
  have hp5 : PlT { T1 with next := A.1 } 0 := Hpl0.out
  have HT5 := Lib.hid hT5
  have Hp5 := Lib.hid hp5
  have hlist := hR5.list
  have hsum := bodP_sum (most := 16777216) (zs := A.2.1) (b1 := false) (b2 := A.2.2)
  obtain ⟨B, hB⟩ : ∃ B, bodP 16777216 A.2.1 A.2.2 = B := ⟨_, rfl⟩
  obtain ⟨C, hC⟩ : ∃ C, bodP 16777216 A.2.1 false = C := ⟨_, rfl⟩
  rw [hB, hC] at hlist
  rw [hB, hC] at hsum
  have Hlen := Lib.hid (show B.2.1.length ≤ (allOf PS).length from by omega)
  clear hnum hO4 hp4 hO5 H5 hR5 hT5 hp5 hB hC HT1 Hroot Hpl0 HO1 HO2 hM5 hsum hlen0
  generalize (upd S1 t (.cells (treeCells { T1 with next := A.1 }) 75)) = S5 at *
  go_wp2_with fail
  refine hlist.mono ?_
  rintro e w6 ⟨r2, rfl, hR6⟩
  have hfiles := loadFiles_any hR6 HT5.out Hp5.out (Int.le_refl 0)
  change Calls Tryz.prog 53 #[.pointer (some ⟨t, 0, none⟩), .pointer (some ⟨r2, 0, none⟩)] w6 (fun e w' => ∃ b, e = .returned (.bool b) ∧ LoadAt w0 t A.1 0 r B.2.1 B.2.2 b w') at hfiles
  clear hlist hR6 HT5 Hp5 c1 f1
  go_wp2_with fail
  refine hfiles.mono ?_
  rintro e w7 ⟨b7, rfl, S7, M7, T7, hR7, H7, hp7, hn7⟩
  have HL := Lib.hid (show LRel w0 t A.1 r (allOf PS).length w7 from ⟨S7, M7, T7, _, _, hR7, H7, hp7.mono (by omega), Hlen.out, hn7⟩)
  clear hfiles hR7 H7 hp7 hn7
  go_wp2_with fail
  go_loopw [8] (fun okv wr => ∃ ok : Bool, okv = .bool ok ∧ LRel w0 t A.1 r (allOf PS).length wr) (fun _ wr => leftU ⟨w0, []⟩ [] r wr)
  case atStart => exact ⟨b7, rfl, HL.out⟩
  case round =>
    obtain ⟨ok, rfl, S8, M8, T8, zs, bad, hR, H8, hp8, hle, hn8⟩ := hrel
    have Hleft := Lib.hid (hR.left ⟨w0, []⟩ [])
    have hlz := Hl.out
    have hend : ∀ (b : Bool), b = (!ok || decide (A.1 ≤ 1)) → True := fun _ _ => trivial
    have c1 := (H8.at_.inWorld hR.own).at0.2.1
    rw [hn8] at c1
    have hcount : T8.nodes.length ≤ 4294967296 := by
      have h1 := nodup_len 2147483647 H8.good.keys fun x hx => by
        obtain ⟨p, hp, rfl⟩ := List.mem_map.1 hx
        have := H8.good.low p hp
        rw [hn8] at this
        show 1 ≤ p.1 ∧ p.1 ≤ (2147483647 : Int)
        exact ⟨this.1, by rcases this.2 with h | h <;> omega⟩
      rw [List.length_map] at h1
      omega
    have HB := Lib.hid hR.own.below
    have hno : ∀ w', Below wr.heap.size wr w' → Below w0.heap.size w0 w' := fun w' hb => (hR.own.later hb).below
    have Hno := Lib.hid hno
    have HR := Lib.hid hR
    have HT := Lib.hid H8
    have Hp := Lib.hid hp8
    have Hle := Lib.hid hle
    have Hn8 := Lib.hid hn8
    have hmore := hR.more
    have hloose := loose_t (H8.at_.inWorld hR.own) hcount
    clear hR H8 hp8 hle hn8 hcount hno hend
    cases ok with
    | false =>
      clear hmore hloose
      go_wp2_with fail
      go_ret2
      exact .inl ⟨rfl, Hno.out _ (Below.refl _ _)⟩
    | true =>
      rcases Nat.eq_zero_or_pos zs.length with h0 | h0
      · rw [decide_eq_false (by omega)] at hmore
        by_cases hA2 : A.1 ≤ 1
        · clear hloose
          go_wp2_with (go_at_call 43; refine hmore.mono ?_; rintro e w' ⟨rfl, rfl⟩)
          go_ret2
          exact .inl ⟨rfl, Hno.out _ (Below.refl _ _)⟩
        · go_wp2_with (go_at_call 43; refine hmore.mono ?_; rintro e w' ⟨rfl, rfl⟩)
          refine hloose.mono ?_
          rintro e w9 ⟨v9, ls, rfl, hperm, hO9⟩
          obtain ⟨a9, c9, rfl, _, _⟩ := Own.sized (h := (show Own wr w9 (⟨3, 1, v9, (ls.mergeSort fun x y => decide (x ≤ y)).length, _⟩ :: []) from hO9))
          have hb9 := hO9.below
          rw [List.length_mergeSort]
          have HY := Lib.hid (show Own ⟨w0, S8⟩ w9 M8 from HR.out.own.later hb9)
          have HN := Lib.hid (Hno.out w9 hb9)
          clear hO9 hb9 hloose hmore
          by_cases hl9 : 0 < ls.length
          · have hl9' : (0 : Int) < (ls.length : Int) := by exact_mod_cast hl9
            go_wp2_with fail
            go_ret2
            exact .inl ⟨rfl, HN.out⟩
          · have hl9' : ¬ (0 : Int) < (ls.length : Int) := by omega
            go_wp2_with fail
            go_ret2
            exact .inr ⟨t, S8, M8, T8, rfl, HY.out, HT.out⟩
      · rw [decide_eq_true h0] at hmore
        have hdir := loadDir_any HR.out HT.out Hp.out (by omega) (by have := Hle.out; omega) h0
        rw [Hn8.out] at hdir
        clear hloose c1
        go_wp2_with (go_at_call 43; refine hmore.mono ?_; rintro e w' ⟨rfl, rfl⟩)
        refine hdir.mono ?_
        rintro e w9 ⟨b9, S9, M9, T9, zs9, bad9, rfl, hR9, H9, hlt9, hp9, hn9⟩
        have Hl9 := Lib.hid (hR9.left ⟨w0, []⟩ [])
        have Hlt9 := Lib.hid hlt9
        have HL9 := Lib.hid (show LRel w0 t A.1 r (allOf PS).length w9 from ⟨S9, M9, T9, zs9, bad9, hR9, H9, hp9.mono (by have := Hle.out; omega), by have := Hle.out; omega, hn9⟩)
        clear hdir hR9 H9 hlt9 hp9 hn9 hmore
        go_wp2_with fail
        go_roundw
        case rel => exact ⟨b9, rfl, HL9.out⟩
        case measure => rw [Hl9.out, Hleft.out]; exact Hlt9.out
end Go.Proofs.YtdjoahhcmkedhaaGreatDoor
end

/- Unpack: the walk. -/
section
namespace Go.Proofs.YtdjoahhcmkedhaaGreatDoor
open Go.RowKit
set_option linter.unusedVariables false
set_option linter.unusedSimpArgs false
set_option maxRecDepth 100000

/-- What Unpack tells: the operations of all bytes, or that they are none. -/
def UnpackAt (W0 : Base) (L : List Rw) (zs : List Int) (e : Ending) (w' : World) : Prop :=
  ∃ s : UState, RunU ([], zs, false) s ∧ s.2.1 = [] ∧ ∃ (v : Value) (os : List (OpD × OpB)) (L1 : List Rw), Own W0 w' (rowO v (os.map (·.1)) :: (L1 ++ L)) ∧ os.map (·.2) = s.1 ∧ (∀ x ∈ os, OpOf (L1 ++ L) x.1 x.2) ∧ os.length ≤ zs.length ∧
    (∃ a c, v = .slice a os.length c) ∧ e = .returned (if s.2.2 = false then .tuple #[v, .int .i64 0] else .tuple #[.slice none 0 0, .int .i64 4])
set_option maxHeartbeats 4000000 in
theorem unpack_any {W0 : Base} {w : World} {L : List Rw} (hO : Own W0 w L) (v : Value) (zs : List Int) (h : By w v zs) (hl : zs.length ≤ 1000000) :
    Calls Tryz.prog 20 #[v] w (UnpackAt W0 L zs) := by
  have hrd := rread_rd v zs w h (by omega) W0 L hO
  obtain ⟨_, _, a, c, rfl, _, _⟩ := h
  obtain ⟨inf, hi0, hi1, hi2, hi3⟩ := info_op3
  have Hi0 := Lib.hid hi0
  have Hi1 := Lib.hid hi1
  have Hi2 := Lib.hid hi2
  have Hi3 := Lib.hid hi3
  clear hi0 hi1 hi2 hi3 hO
  go_enter Tryz.func20, Tryz.ntmps20
  go_wp2_with fail
  refine hrd.mono ?_
  rintro e w1 ⟨r, L0, rfl, hR⟩
  have HR0 := Lib.hid (show UnRel W0 L r zs (.slice none 0 0) w1 from ⟨_, [], L0, .start, (by
    obtain ⟨v1, g1, g2⟩ := hR
    exact ⟨v1, (Own.nil g1 _ _).swap, g2.cons _⟩), rfl, (fun x hx => by cases hx), by simp⟩)
  clear hrd hR
  go_wp2_with fail
  go_loopw [4] (fun v wr => UnRel W0 L r zs v wr) (fun _ wr => leftU W0 L r wr)
  case atStart => exact HR0.out
  case round =>
    obtain ⟨s, os, L1, hrun, hR, hbs, hops, hlen⟩ := hrel
    have hmore := hR.more
    have HR := Lib.hid hR
    have Hrun := Lib.hid hrun
    have Hbs := Lib.hid hbs
    have Hops := Lib.hid hops
    have Hlen := Lib.hid hlen
    have Hleft := Lib.hid (hR.left W0 L)
    clear hrun hbs hops hlen
    rcases Nat.eq_zero_or_pos s.2.1.length with h0 | h0
    · have herr := hR.err
      rw [decide_eq_false (by omega)] at hmore
      rw [decide_eq_true h0] at herr
      have hs0 : s.2.1 = [] := List.eq_nil_of_length_eq_zero h0
      obtain ⟨zl, zy, bad⟩ := s
      obtain ⟨vr, g1, g2⟩ := hR
      have hv : ∃ a c, u4 = .slice a os.length c := by
        obtain ⟨a, c, e, _⟩ := Own.sized (h := (show Own W0 wr (⟨38, 4, u4, (os.map (·.1)).length, _⟩ :: (L1 ++ L)) from g1.tail))
        exact ⟨a, c, by rw [e, List.length_map]⟩
      have HF := Lib.hid (show ∀ e, e = .returned (if bad = false then .tuple #[u4, .int .i64 0] else .tuple #[.slice none 0 0, .int .i64 4]) → UnpackAt W0 L zs e wr from fun e he => ⟨_, Hrun.out, hs0, u4, os, L1, g1.tail, Hbs.out, Hops.out, (by have := Hlen.out; omega), hv, he⟩)
      clear HR g1 g2 hs0 h0
      cases bad with
      | false =>
        simp only [Bool.not_false, Bool.and_true, if_true] at herr
        go_wp2_with (first
          | (go_at_call 43; refine hmore.mono ?_; rintro e w' ⟨rfl, rfl⟩)
          | (go_at_call 47; refine herr.mono ?_; rintro e w' ⟨rfl, rfl⟩))
        go_ret2
        exact HF.out _ rfl
      | true =>
        simp only [Bool.not_true, Bool.false_and, Bool.false_eq_true, if_false] at herr
        go_wp2_with (first
          | (go_at_call 43; refine hmore.mono ?_; rintro e w' ⟨rfl, rfl⟩)
          | (go_at_call 47; refine herr.mono ?_; rintro e w' ⟨rfl, rfl⟩))
        go_ret2
        exact HF.out _ rfl
    · rw [decide_eq_true h0] at hmore
      have hlt := stepU_len s h0
      obtain ⟨A, hA⟩ : ∃ A, numP 6 s.2.1 s.2.2 = A := ⟨_, rfl⟩
      obtain ⟨B, hB⟩ : ∃ B, bodP 40 A.2.1 A.2.2 = B := ⟨_, rfl⟩
      obtain ⟨C, hC⟩ : ∃ C, bodP 40 B.2.1 B.2.2 = C := ⟨_, rfl⟩
      obtain ⟨D, hD⟩ : ∃ D, bodP 3500 C.2.1 C.2.2 = D := ⟨_, rfl⟩
      have hst : stepU s = (s.1 ++ [⟨A.1, B.1, C.1, D.1⟩], D.2) := by
        unfold stepU
        rw [hA, hB, hC, hD]
      have Hst := Lib.hid hst
      rw [hst] at hlt
      have Hlt := Lib.hid hlt
      have H0 := Lib.hid h0
      have hn := hR.num 6
      rw [hA] at hn
      clear hR hst hlt h0
      go_wp2_with (go_at_call 43; refine hmore.mono ?_; rintro e w' ⟨rfl, rfl⟩)
      refine hn.mono ?_
      rintro e w2 ⟨rfl, hR2⟩
      have ht1 := hR2.text 40
      rw [hB] at ht1
      clear hn hR2 hmore
      go_wp2_with fail
      refine ht1.mono ?_
      rintro e w3 ⟨rfl, hR3⟩
      have ht2 := hR3.text 40
      rw [hC] at ht2
      clear ht1 hR3
      go_wp2_with fail
      refine ht2.mono ?_
      rintro e w4 ⟨rfl, hR4⟩
      have hr := hR4.raw 3500
      rw [hD] at hr
      clear ht2 hR4
      go_wp2_with fail
      refine hr.mono ?_
      rintro e w5 ⟨vd, L2, rfl, ⟨vr, hO5, hp5⟩, hpd⟩
      have hn5 : ∃ a c, vd = .slice a D.1.length c := by
        obtain ⟨a, c, h, _⟩ := hpd
        exact ⟨a, c, h⟩
      obtain ⟨va, vc, rfl⟩ := hn5
      clear hr hA hB hC hD
      have hO6 : Own W0 w5 (rowO u4 (os.map (·.1)) :: rowR r vr D.2.2 :: (L2 ++ (L1 ++ L))) := hO5.perm (by
        refine (List.Perm.cons _ List.perm_middle).trans (List.Perm.swap _ _ _))
      have HA := Lib.hid (hO6.alloc (.cells (OpD.cells ⟨A.1, strOfNums B.1, strOfNums C.1, va, D.1.length, vc⟩).toArray 38))
      have Hsrc := Lib.hid (lit_src w5 (OpD.cells ⟨A.1, strOfNums B.1, strOfNums C.1, va, D.1.length, vc⟩) 38 (op_one _) w5.heap.size rfl)
      have Hp5 := Lib.hid hp5
      have Hpd := Lib.hid hpd
      have hlen1 := Hlen.out
      have hle1 : os.length ≤ 1000000 := by omega
      have H63 := Lib.hid (show (os.map (·.1)).length + 1 ≤ maxLen from by rw [List.length_map]; unfold maxLen; omega)
      have Hby := Lib.hid (show ((os.map (·.1)).length + 1) * 64 ≤ 140737488355328 from by rw [List.length_map]; omega)
      clear hO5 hO6 hp5 hpd hlen1
      go_wp2_with (at_builtin; refine wpList_append_src rfl (.tmp 11) (.tmp 21) 32 rfl u4 (os.map (·.1)).length ((os.map (·.1)).map OpD.cells).flatten (.slice (some ⟨w5.heap.size, 0, none⟩) 1 1) 1 (OpD.cells ⟨A.1, strOfNums B.1, strOfNums C.1, va, D.1.length, vc⟩) rfl rfl HA.out inf zOp 64 Tryz.underlying32 Hi0.out Hi1.out Hi2.out Hi3.out zOp_size (by decide) Hsrc.out (cells_len _) (by rw [List.length_map]; unfold maxLen; omega) (by rw [List.length_map]; omega) ?_)
      intro v' w6 hO7
      have hRd : Rd W0 w6 (rowO v' ((os ++ [((⟨A.1, strOfNums B.1, strOfNums C.1, va, D.1.length, vc⟩ : OpD), (⟨A.1, B.1, C.1, D.1⟩ : OpB))]).map (·.1)) :: ((L2 ++ L1) ++ L)) r D.2.1 D.2.2 := by
        refine ⟨vr, ?_, ?_⟩
        · have h1 := hO7.swap
          rw [List.append_assoc]
          have e : rowO v' ((os ++ [((⟨A.1, strOfNums B.1, strOfNums C.1, va, D.1.length, vc⟩ : OpD), (⟨A.1, B.1, C.1, D.1⟩ : OpB))]).map (·.1)) = ⟨38, 4, v', os.length + 1, (List.map (OpD.cells ∘ fun x => x.fst) os).flatten ++ OpD.cells ⟨A.1, strOfNums B.1, strOfNums C.1, va, D.1.length, vc⟩⟩ := by
            unfold rowO
            simp
          rw [e]
          exact h1
        · exact Hp5.out.keep fun x hx he => by
            rcases List.mem_append.1 hx with h | h
            · exact List.mem_cons_of_mem _ (List.mem_append_left _ (List.mem_append_left _ h))
            · rcases List.mem_cons.1 h with h | h
              · rw [h] at he; exact absurd (show (38 : TypeId) = 5 from he) (by decide)
              · rcases List.mem_append.1 h with h | h
                · exact List.mem_cons_of_mem _ (List.mem_append_left _ (List.mem_append_right _ h))
                · exact List.mem_cons_of_mem _ (List.mem_append_right _ h)
      have Hl6 := Lib.hid (hRd.left W0 L)
      have HR6 := Lib.hid (show UnRel W0 L r zs v' w6 from ⟨stepU s, os ++ [(⟨A.1, strOfNums B.1, strOfNums C.1, va, D.1.length, vc⟩, ⟨A.1, B.1, C.1, D.1⟩)], L2 ++ L1, .step Hrun.out H0.out, by
        rw [Hst.out]
        exact hRd, by
        rw [Hst.out, List.map_append, Hbs.out]; rfl, fun x hx => by
        rcases List.mem_append.1 hx with h | h
        · exact (Hops.out x h).mono fun y hy => by
            rw [List.append_assoc]
            exact List.mem_append_right _ hy
        · rw [List.mem_singleton.1 h]
          exact ⟨rfl, rfl, rfl, rfl, Hpd.out.mono fun y hy => List.mem_append_left _ (List.mem_append_left _ hy)⟩, by
        rw [Hst.out, List.length_append]
        have h1 := Hlen.out
        have h2 := Hlt.out
        simp only [List.length_singleton] at h2 ⊢
        omega⟩)
      clear hRd
      clear hO7
      go_wp2_with fail
      go_roundw
      case rel => exact HR6.out
      case measure => rw [Hl6.out, Hleft.out]; exact Hlt.out
end Go.Proofs.YtdjoahhcmkedhaaGreatDoor
end

/- Pack: operations as bytes. -/
section
namespace Go.Proofs.YtdjoahhcmkedhaaGreatDoor
open Go.RowKit
set_option linter.unusedVariables false
set_option linter.unusedSimpArgs false
set_option maxRecDepth 100000

def packD (o : OpD) (d : List Int) : List Int := le4 o.kind ++ (sizedL (sb o.p) ++ (sizedL (sb o.q) ++ sizedL d))
/-- Operations that Pack is handed: where they lie, as long as rows of L do, and their bytes. -/
structure PackIn (W0 : Base) (L : List Rw) (a : Option Addr) (ops : List (OpD × List Int)) : Prop where
  at_ : ∀ w' L', Own W0 w' L' → (∀ x ∈ L, x ∈ L') → ∀ i (h : i < ops.length), ∃ g off, a = some ⟨g, off, none⟩ ∧ w'.rangeAt g (off + i * 4) ops[i].1.cells
  data : ∀ w' L', Own W0 w' L' → (∀ x ∈ L, x ∈ L') → ∀ o ∈ ops, By w' (.slice o.1.a o.1.n o.1.c) o.2
  kind : ∀ o ∈ ops, 0 ≤ o.1.kind ∧ o.1.kind < 4294967296
  len : ∀ o ∈ ops, o.1.p.size ≤ 100000 ∧ o.1.q.size ≤ 100000 ∧ o.2.length ≤ 100000
def packsD (ops : List (OpD × List Int)) : List Int := (ops.map fun o => packD o.1 o.2).flatten
def boxOp (H : Nat) (o : OpD) : Rw := ⟨38, 4, .slice (some ⟨H, 0, none⟩) 1 1, 1, o.cells⟩
def rowPt (v : Value) (PS : List (Value × List Int)) : Rw := ⟨97, 1, v, PS.length, PS.map (·.1)⟩
theorem box_cells {W0 : Base} {w : World} {L : List Rw} (h : Own W0 w L) {H : Nat} {o : OpD} (hm : boxOp H o ∈ L) :
    w.cell? ⟨H, 0, none⟩ = some (.int .i64 o.kind) ∧ w.cell? ⟨H, 1, none⟩ = some (.string o.p) ∧ w.cell? ⟨H, 2, none⟩ = some (.string o.q) ∧ w.cell? ⟨H, 3, none⟩ = some (.slice o.a o.n o.c) := by
  have h1 := h.only hm
  exact ⟨Own.cell (h := h1) 0 (by decide), Own.cell (h := h1) 1 (by decide), Own.cell (h := h1) 2 (by decide), Own.cell (h := h1) 3 (by decide)⟩
def PkRel (W0 : Base) (L : List Rw) (ops : List (OpD × List Int)) (k : Nat) (v : Value) (wr : World) : Prop :=
  ∃ (PS : List (Value × List Int)) (L1 : List Rw), Own W0 wr (rowPt v PS :: (L1 ++ L)) ∧ (∀ p ∈ PS, rowU p.1 p.2 ∈ L1 ∧ Byts p.2) ∧ allOf PS = packsD (ops.take k) ∧ PS.length = 4 * k
theorem part_info : ∃ i, Tryz.prog.info? 97 = some i ∧ i.zero = some (.slice none 0 0) ∧ i.size = 1 ∧ i.bytes = 24 := by
  have h : (Tryz.prog.info? 97).map (fun i => (i.zero, i.size, i.bytes)) = some (some (.slice none 0 0), 1, 24) := by kernel_rfl
  cases hi : Tryz.prog.info? 97 with
  | none => rw [hi] at h; cases h
  | some i =>
    rw [hi] at h
    injection h with h
    injection h with h1 h2
    injection h2 with h2 h3
    exact ⟨i, rfl, h1, h2, h3⟩
theorem packsD_snoc (ops : List (OpD × List Int)) (k : Nat) (h : k < ops.length) : packsD (ops.take (k + 1)) = packsD (ops.take k) ++ packD ops[k].1 ops[k].2 := by
  unfold packsD
  rw [List.take_succ_eq_append_getElem h, List.map_append, List.flatten_append]
  simp
theorem packD_len {o : OpD} {d : List Int} (h1 : o.p.size ≤ 100000) (h2 : o.q.size ≤ 100000) (h3 : d.length ≤ 100000) : (packD o d).length ≤ 300016 := by
  unfold packD
  simp only [List.length_append, sizedL_length, sb_length]
  have : (le4 o.kind).length = 4 := rfl
  omega
theorem packsD_len (ops : List (OpD × List Int)) (h : ∀ o ∈ ops, o.1.p.size ≤ 100000 ∧ o.1.q.size ≤ 100000 ∧ o.2.length ≤ 100000) : (packsD ops).length ≤ 300016 * ops.length := by
  unfold packsD
  induction ops with
  | nil => simp
  | cons o r ih =>
    have h1 := ih fun x hx => h x (List.mem_cons_of_mem _ hx)
    obtain ⟨a, b, c⟩ := h o (List.mem_cons_self ..)
    have h2 := packD_len a b c
    simp only [List.map_cons, List.flatten_cons, List.length_append, List.length_cons]
    omega
theorem PkRel.parts {W0 : Base} {L : List Rw} {ops : List (OpD × List Int)} {k : Nat} {v : Value} {wr : World} (h : PkRel W0 L ops k v wr) : ∃ a c PS, v = .slice a PS.length c ∧ Parts wr a PS ∧ allOf PS = packsD (ops.take k) ∧ PS.length = 4 * k := by
  obtain ⟨PS, L1, h1, h2, h3, h4⟩ := h
  obtain ⟨a, c, hv, _, _⟩ := Own.sized (h := (show Own W0 wr (⟨97, 1, v, PS.length, PS.map (·.1)⟩ :: (L1 ++ L)) from h1))
  refine ⟨a, c, PS, hv, fun i hi => ?_, h3, h4⟩
  obtain ⟨g, cap, e, _⟩ := Own.form (h := (show Own W0 wr (⟨97, 1, v, PS.length, PS.map (·.1)⟩ :: (L1 ++ L)) from h1)) (by omega)
  rw [e] at hv h1
  injection hv with e1 _ _
  have hc := Own.cell (h := h1) i (by omega)
  refine ⟨g, 0, e1.symm, ?_, ?_⟩
  · rw [Nat.zero_add, hc, List.getElem?_eq_getElem (by simpa using hi)]
    simp
  · obtain ⟨m1, m2⟩ := h2 _ (List.getElem_mem hi)
    exact (h1.only (List.mem_cons_of_mem _ (List.mem_append_left _ m1))).by m2
theorem Own.formU {W0 : Base} {w : World} {v : Value} {zs : List Int} {L : List Rw} (h : Own W0 w (rowU v zs :: L)) : ∃ a k c, v = .slice a k c := by
  obtain ⟨a, c, e, _⟩ := Own.sized (h := (show Own W0 w (⟨5, 1, v, zs.length, bs zs⟩ :: L) from h))
  exact ⟨a, _, c, e⟩
theorem lit_src4 (w : World) (T : TypeId) (a b c d : Value) (ha : a.oneCell' = true) (hb : b.oneCell' = true) (hc : c.oneCell' = true) (hd : d.oneCell' = true) : Src (w.alloc (.cells #[a, b, c, d] T)) (.slice (some ⟨w.heap.size, 0, none⟩) 4 4) 4 [a, b, c, d] := by
  refine .inr ⟨_, _, rfl, fun j u hj => ?_, fun u hu => ?_⟩
  · rw [Addr.add_mid, Nat.zero_add, World.cell?_alloc_new]
    have e : (#[a, b, c, d] : Array Value)[j]? = ([a, b, c, d] : List Value)[j]? := by rw [← Array.getElem?_toList]
    rw [e]; exact hj
  · simp only [List.mem_cons, List.not_mem_nil, or_false] at hu
    rcases hu with rfl | rfl | rfl | rfl <;> assumption
theorem PkRel.step {W0 : Base} {L L1 : List Rw} {ops : List (OpD × List Int)} {k : Nat} {v' va vb vc vd : Value} {w7 : World} {PS : List (Value × List Int)} {bx : Rw} {o : OpD} {d : List Int} (hO : Own W0 w7 (⟨97, 1, v', PS.length + 4, PS.map (·.1) ++ [va, vb, vc, vd]⟩ :: ([rowU vd (sizedL d), rowU vc (sizedL (sb o.q)), rowU vb (sizedL (sb o.p)), rowU va (le4 o.kind), bx] ++ (L1 ++ L))))
    (hk0 : 0 ≤ o.kind) (hk1 : o.kind < 4294967296) (lp : o.p.size < 4294967296) (lq : o.q.size < 4294967296) (ld : d.length < 4294967296) (hd : Byts d) (hps : ∀ p ∈ PS, rowU p.1 p.2 ∈ L1 ∧ Byts p.2) (hall : allOf PS = packsD (ops.take k)) (hlen : PS.length = 4 * k) (hsn : packsD (ops.take (k + 1)) = packsD (ops.take k) ++ packD o d) : PkRel W0 L ops (k + 1) v' w7 := by
  refine ⟨PS ++ [(va, le4 o.kind), (vb, sizedL (sb o.p)), (vc, sizedL (sb o.q)), (vd, sizedL d)], [rowU vd (sizedL d), rowU vc (sizedL (sb o.q)), rowU vb (sizedL (sb o.p)), rowU va (le4 o.kind), bx] ++ L1, ?_, fun p hp => ?_, ?_, by simp [hlen]; omega⟩
  · have e : rowPt v' (PS ++ [(va, le4 o.kind), (vb, sizedL (sb o.p)), (vc, sizedL (sb o.q)), (vd, sizedL d)]) = ⟨97, 1, v', PS.length + 4, PS.map (·.1) ++ [va, vb, vc, vd]⟩ := by
      unfold rowPt; simp
    rw [e, List.append_assoc]; exact hO
  · rcases List.mem_append.1 hp with hp | hp
    · obtain ⟨m1, m2⟩ := hps p hp
      exact ⟨List.mem_append_right _ m1, m2⟩
    · simp only [List.mem_cons, List.not_mem_nil, or_false] at hp
      rcases hp with rfl | rfl | rfl | rfl
      · exact ⟨List.mem_append_left _ (by simp), le4_byts _ hk0 hk1⟩
      · exact ⟨List.mem_append_left _ (by simp), sizedL_byts _ (sb_byts _) (by rw [sb_length]; exact lp)⟩
      · exact ⟨List.mem_append_left _ (by simp), sizedL_byts _ (sb_byts _) (by rw [sb_length]; exact lq)⟩
      · exact ⟨List.mem_append_left _ (by simp), sizedL_byts _ hd ld⟩
  · rw [hsn, ← hall]
    unfold allOf packD
    rw [List.map_append, List.flatten_append]
    simp
set_option maxHeartbeats 8000000 in
theorem pack_ops {W0 : Base} {w : World} {L : List Rw} (hO : Own W0 w L) {a : Option Addr} {ops : List (OpD × List Int)} (hP : PackIn W0 L a ops) (cap : Nat) (hn : ops.length ≤ 100000) :
    Calls Tryz.prog 21 #[.slice a ops.length cap] w fun e w' => ∃ v L1, e = .returned v ∧ Own W0 w' (rowU v (packsD ops) :: (L1 ++ L)) := by
  have HP := Lib.hid hP
  have HR0 := Lib.hid (show PkRel W0 L ops 0 (.slice none 0 0) w from ⟨[], [], Own.nil hO _ _, (fun p hp => by cases hp), rfl, rfl⟩)
  obtain ⟨inf, hi0, hi1, hi2, hi3⟩ := part_info
  have Hi0 := Lib.hid hi0
  have Hi1 := Lib.hid hi1
  have Hi2 := Lib.hid hi2
  have Hi3 := Lib.hid hi3
  clear hi0 hi1 hi2 hi3 hO hP
  go_enter Tryz.func21, Tryz.ntmps21
  go_wp2_with fail
  go_loopw [3, 8] (fun v iv wr => ∃ k : Nat, k ≤ ops.length ∧ iv = .int .i64 k ∧ PkRel W0 L ops k v wr) (fun _ iv _ => ops.length - (intOf iv).toNat)
  case atStart => exact ⟨0, Nat.zero_le _, rfl, HR0.out⟩
  case round =>
    obtain ⟨k, hk, rfl, hR⟩ := hrel
    by_cases hkl : k < ops.length
    · obtain ⟨PS, L1, hO, hps, hall, hlen⟩ := hR
      obtain ⟨o, ho, ⟨g, off, rfl, hr⟩, hmem⟩ : ∃ o, o = ops[k] ∧ (∃ g off, a = some ⟨g, off, none⟩ ∧ wr.rangeAt g (off + k * 4) o.1.cells) ∧ o ∈ ops := ⟨_, rfl, HP.out.at_ wr _ hO (fun x hx => List.mem_cons_of_mem _ (List.mem_append_right _ hx)) k hkl, List.getElem_mem hkl⟩
      have hsn := packsD_snoc ops k hkl
      rw [← ho] at hsn
      obtain ⟨hk0, hk1⟩ := HP.out.kind o hmem
      obtain ⟨hp1, hp2, hp3⟩ := HP.out.len o hmem
      have hdata := fun w' L' (h1 : Own W0 w' L') (h2 : ∀ x ∈ L, x ∈ L') => HP.out.data w' L' h1 h2 o hmem
      have Hdata := Lib.hid hdata
      have Hsn := Lib.hid hsn
      have Hr := Lib.hid hr
      have HO := Lib.hid hO
      have Hone := Lib.hid (op_one o.1)
      have Hps := Lib.hid hps
      have Hall := Lib.hid hall
      have Hlen := Lib.hid hlen
      have Hkl := Lib.hid hkl
      have hb63 : (k : Int) < (ops.length : Int) := by exact_mod_cast hkl
      clear hdata hsn hr hO hps hall hlen ho hmem
      go_wp2_with (first
        | (refine wpList_load_mid rfl 38 (.tmp 10) rfl g (off + k * 4) rfl o.1.cells _ Hr.out Tryz.underlying38 rfl (info_op _) ?_)
        | (refine wpList_store_new rfl 38 (.tmp 5) (.tmp 11) rfl HO.out o.1.cells wr.heap.size rfl rfl rfl rfl (info_op _) Hone.out ?_))
      intro w3 hO3 hlt3
      obtain ⟨H, hH⟩ : ∃ H, wr.heap.size = H := ⟨_, rfl⟩
      rw [hH] at hO3 ⊢
      have HO3 := Lib.hid (show Own W0 w3 (boxOp H o.1 :: rowPt u3 PS :: (L1 ++ L)) from hO3)
      have s0 := box_cells HO3.out (List.mem_cons_self ..)
      clear hO3 Hr HO Hone hH hlt3
      obtain ⟨OA, hOA⟩ : ∃ OA, o.1 = OA := ⟨_, rfl⟩
      obtain ⟨d, hd⟩ : ∃ d, o.2 = d := ⟨_, rfl⟩
      rw [hOA] at hk0 hk1 hp1 hp2 HO3 s0 Hsn Hdata
      rw [hd] at hp3 Hsn Hdata
      obtain ⟨q0, q1, q2, q3⟩ := id s0
      have lp : OA.p.size < 4294967296 := by omega
      have lq : OA.q.size < 4294967296 := by omega
      have ld : d.length < 4294967296 := by omega
      clear hOA hd hp1 hp2 hp3
      have hbd : Byts d := (Hdata.out w3 _ HO3.out (fun x hx => List.mem_cons_of_mem _ (List.mem_cons_of_mem _ (List.mem_append_right _ hx)))).2.1
      have Hstep := Lib.hid (fun (v' va vb vc vd : Value) (w7 : World) (hO7 : Own W0 w7 (⟨97, 1, v', PS.length + 4, PS.map (·.1) ++ [va, vb, vc, vd]⟩ :: ([rowU vd (sizedL d), rowU vc (sizedL (sb OA.q)), rowU vb (sizedL (sb OA.p)), rowU va (le4 OA.kind), boxOp H OA] ++ (L1 ++ L)))) => PkRel.step (ops := ops) (k := k) hO7 hk0 hk1 lp lq ld hbd Hps.out Hall.out Hlen.out Hsn.out)
      have hpl : PS.length ≤ 400000 := by have := Hlen.out; have := Hkl.out; omega
      clear hbd
      obtain ⟨κ, p, q, da, dn, dc⟩ := OA
      dsimp only at hk0 hk1 lp lq s0 q0 q1 q2 q3 Hdata Hstep
      have HD := Lib.hid (show ∀ w' L', Own W0 w' L' → (∀ x ∈ L, x ∈ L') → By w' (.slice da dn dc) d from Hdata.out)
      clear Hdata
      go_wp2_with fail
      go_region_held3 (fun w' : World => w'.cell? ⟨H, 0, none⟩ = some (.int .i64 κ) ∧ w'.cell? ⟨H, 1, none⟩ = some (.string p) ∧ w'.cell? ⟨H, 2, none⟩ = some (.string q) ∧ w'.cell? ⟨H, 3, none⟩ = some (.slice da dn dc)) (first | exact s0 | exact sa | exact sb2 | exact sc | exact sd | exact sy | go_keep) (first
        | (go_at_call 48; refine (num_any κ _ hk0 hk1).mono ?_; rintro e wa ⟨va, rfl, hOa⟩; obtain ⟨aa, na, ca, rfl⟩ := hOa.formU; have HOa := Lib.hid (show Own W0 wa (rowU (.slice aa na ca) (le4 κ) :: boxOp H ⟨κ, p, q, da, dn, dc⟩ :: rowPt u3 PS :: (L1 ++ L)) from (by first | exact HO3.out.drew.join hOa | exact HO3.out.join hOa)); have sa := box_cells HOa.out (by simp : boxOp H ⟨κ, p, q, da, dn, dc⟩ ∈ _); obtain ⟨qa0, qa1, qa2, qa3⟩ := id sa; clear hOa)
        | (go_at_call 49; refine (text_any p _ lp).mono ?_; rintro e wb ⟨vb, rfl, hOb⟩; obtain ⟨ab, nb, cb, rfl⟩ := hOb.formU; have HOb := Lib.hid (show Own W0 wb (rowU (.slice ab nb cb) (sizedL (sb p)) :: rowU (.slice aa na ca) (le4 κ) :: boxOp H ⟨κ, p, q, da, dn, dc⟩ :: rowPt u3 PS :: (L1 ++ L)) from (by first | exact HOa.out.drew.join hOb | exact HOa.out.join hOb)); have sb2 := box_cells HOb.out (by simp : boxOp H ⟨κ, p, q, da, dn, dc⟩ ∈ _); obtain ⟨qb0, qb1, qb2, qb3⟩ := id sb2; clear hOb)
        | (go_at_call 49; refine (text_any q _ lq).mono ?_; rintro e wc ⟨vc, rfl, hOc⟩; obtain ⟨ac, nc, cc, rfl⟩ := hOc.formU; have HOc := Lib.hid (show Own W0 wc (rowU (.slice ac nc cc) (sizedL (sb q)) :: rowU (.slice ab nb cb) (sizedL (sb p)) :: rowU (.slice aa na ca) (le4 κ) :: boxOp H ⟨κ, p, q, da, dn, dc⟩ :: rowPt u3 PS :: (L1 ++ L)) from (by first | exact HOb.out.drew.join hOc | exact HOb.out.join hOc)); have sc := box_cells HOc.out (by simp : boxOp H ⟨κ, p, q, da, dn, dc⟩ ∈ _); have hbc := HD.out wc _ HOc.out (by intro x hx; simp [hx]); obtain ⟨qc0, qc1, qc2, qc3⟩ := id sc; clear hOc)
        | (go_at_call 50; refine (raw_any _ d _ ?_ ld).mono ?_; exact hbc; rintro e wd ⟨vd, rfl, hOd⟩; obtain ⟨ad, nd, cd, rfl⟩ := hOd.formU; have HOd := Lib.hid (show Own W0 wd (rowU (.slice ad nd cd) (sizedL d) :: rowU (.slice ac nc cc) (sizedL (sb q)) :: rowU (.slice ab nb cb) (sizedL (sb p)) :: rowU (.slice aa na ca) (le4 κ) :: boxOp H ⟨κ, p, q, da, dn, dc⟩ :: rowPt u3 PS :: (L1 ++ L)) from (by first | exact HOc.out.drew.join hOd | exact HOc.out.join hOd)); have sd := box_cells HOd.out (by simp : boxOp H ⟨κ, p, q, da, dn, dc⟩ ∈ _); obtain ⟨qd0, qd1, qd2, qd3⟩ := id sd; have HP4 := Lib.hid (show Own W0 wd (⟨97, 1, u3, PS.length, PS.map (·.1)⟩ :: ([rowU (.slice ad nd cd) (sizedL d), rowU (.slice ac nc cc) (sizedL (sb q)), rowU (.slice ab nb cb) (sizedL (sb p)), rowU (.slice aa na ca) (le4 κ), boxOp H ⟨κ, p, q, da, dn, dc⟩] ++ (L1 ++ L))) from HOd.out.perm (List.perm_middle (l₁ := [rowU (.slice ad nd cd) (sizedL d), rowU (.slice ac nc cc) (sizedL (sb q)), rowU (.slice ab nb cb) (sizedL (sb p)), rowU (.slice aa na ca) (le4 κ), boxOp H ⟨κ, p, q, da, dn, dc⟩]))); clear hOd)
        | (refine step_append_src (by rfl) (.tmp 12) (.tmp 25) 96 (by rfl) u3 PS.length (PS.map (·.1)) _ 4 [.slice aa na ca, .slice ab nb cb, .slice ac nc cc, .slice ad nd cd] (by rfl) (by rfl) (by first | exact HP4.out.alloc _ | exact HP4.out.drew.alloc _ | exact (HP4.out.alloc _).drew) inf (.slice none 0 0) 24 Tryz.underlying96 Hi0.out Hi1.out Hi2.out Hi3.out rfl (by decide) (lit_src4 _ _ _ _ _ _ rfl rfl rfl rfl) rfl (by unfold maxLen; omega) (by omega) ?_; intro v7 w7 hO7; have HR7 := Lib.hid (Hstep.out _ _ _ _ _ _ hO7); have sy := box_cells hO7 (by simp : boxOp H ⟨κ, p, q, da, dn, dc⟩ ∈ _); clear hO7))
      all_goals clear HP4 HOc HOb HOa HO3 Hstep
      all_goals go_wp2_with fail
      all_goals go_roundw
      case rel => exact ⟨k + 1, by have := Hkl.out; omega, by go_num, HR7.out⟩
      case measure => have := Hkl.out; simp [intOf]; omega
    · have hke : k = ops.length := by omega
      subst hke
      obtain ⟨PS, L1, hO, _⟩ := id hR
      obtain ⟨a2, c2, PS2, rfl, hparts, hall, hl2⟩ := hR.parts
      rw [List.take_length] at hall
      have hpl := packsD_len ops HP.out.len
      have hpk := pack_any a2 c2 PS2 wr hparts (by unfold maxLen; omega) (by rw [hall]; omega)
      rw [hall] at hpk
      have HO := Lib.hid hO.tail
      have hb63 : ¬ ((ops.length : Int) < (ops.length : Int)) := Int.lt_irrefl _
      clear hparts hR hO hl2 hpl
      go_wp2_with fail
      refine hpk.mono ?_
      rintro e w5 ⟨v5, rfl, hO5⟩
      have HO5 := Lib.hid (HO.out.join hO5)
      clear hO5 hpk
      go_wp2_with fail
      go_ret
      exact ⟨_, L1, rfl, HO5.out⟩
end Go.Proofs.YtdjoahhcmkedhaaGreatDoor
end
